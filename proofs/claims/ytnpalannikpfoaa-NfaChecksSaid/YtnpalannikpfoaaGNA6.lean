/-
  What is proved: NfaChecks: whether any machine of many ways is allowed is what the document's own reading says; one that is made of numbers is; so is one with one thing of it turned. For every argument.
-/
import Derived.Test.YtnpalannikpfoaaGNA5
open Go Go.Am Go.Proofs
namespace Go.Proofs.Ytnpalannikpfoaa
set_option maxRecDepth 100000
def RowV (M0 M : Mem) (p r8 el w : Nat) (S : Value) (l : List (List Int)) (b : Nat) : Prop :=
  (l = [] ∧ S = sln) ∨ (S = sli b 0 l.length l.length ∧ 0 < l.length ∧ M0.next ≤ b ∧ p ≠ b ∧ r8 ≠ b ∧ ∃ ws, ws ≤ l.length * w ∧ M.get b = some ⟨(irows l).flatten, el, w, ws, true⟩)
structure MkSt (M0 M : Mem) (p r8 : Nat) (k8 : ABlk) (N st en : Int) (l1 l2 : List (List Int)) : Prop where
  ext : Ext M0 M
  ok : MemOk M
  np : M0.next ≤ p
  d8 : p ≠ r8
  g8 : M.get r8 = some k8
  w1 : ∀ r ∈ l1, r.length = 3
  w2 : ∀ r ∈ l2, r.length = 2
  at_ : ∃ S F bs bf, M.get p = some ⟨[i64 N, i64 st, i64 en, S, F], 28, 5, 0, true⟩ ∧ RowV M0 M p r8 48 3 S l1 bs ∧ RowV M0 M p r8 49 2 F l2 bf ∧ (l1 ≠ [] → l2 ≠ [] → bs ≠ bf)
theorem irows_app (l : List (List Int)) (r : List Int) : (irows (l ++ [r])).flatten = (irows l).flatten ++ r.map i64 := by simp [irows]
theorem irows_flen {w : Nat} {l : List (List Int)} (h : ∀ r ∈ l, r.length = w) : (irows l).flatten.length = l.length * w := by
  induction l with
  | nil => simp [irows]
  | cons r l ih =>
    have h1 := h r (List.mem_cons_self ..)
    have h2 := ih fun r hr => h r (List.mem_cons_of_mem _ hr)
    simp only [irows, List.map_cons, List.flatten_cons, List.length_append, List.length_map, List.length_cons] at h2 ⊢
    rw [h2, h1, Nat.succ_mul, Nat.add_comm]
theorem wide_app {w : Nat} {l : List (List Int)} {r : List Int} (h : ∀ r ∈ l, r.length = w) (hr : r.length = w) : ∀ x ∈ l ++ [r], x.length = w := fun x hx => by
  rcases List.mem_append.1 hx with hx | hx
  · exact h x hx
  · simp at hx; rw [hx]; exact hr
theorem RowV.keep {M0 M M' : Mem} {p r8 el w : Nat} {S : Value} {l : List (List Int)} {b : Nat} (h : RowV M0 M p r8 el w S l b) (hk : l ≠ [] → M'.get b = M.get b) : RowV M0 M' p r8 el w S l b := by
  rcases h with h | ⟨h1, h2, h3, h4, h5, ws, h6, h7⟩
  · exact .inl h
  · exact .inr ⟨h1, h2, h3, h4, h5, ws, h6, by rw [hk (by intro x; simp [x] at h2)]; exact h7⟩
theorem RowV.one {M0 M : Mem} {p r8 el w b : Nat} {r : List Int} (h1 : M0.next ≤ b) (h2 : p ≠ b) (h3 : r8 ≠ b) (hg : M.get b = some ⟨r.map i64, el, w, 0, true⟩) : RowV M0 M p r8 el w (sli b 0 1 1) [r] b :=
  .inr ⟨rfl, Nat.one_pos, h1, h2, h3, 0, Nat.zero_le _, by simpa [irows] using hg⟩
theorem RowV.more {M0 M : Mem} {p r8 el w b : Nat} {r : List Int} {l : List (List Int)} (h1 : M0.next ≤ b) (h2 : p ≠ b) (h3 : r8 ≠ b) (hg : M.get b = some ⟨(irows l).flatten ++ r.map i64, el, w, l.length * w, true⟩) : RowV M0 M p r8 el w (sli b 0 (l.length + 1) (l.length + 1)) (l ++ [r]) b :=
  .inr ⟨by simp, by simp, h1, h2, h3, l.length * w, by simp [Nat.succ_mul], by rw [irows_app]; exact hg⟩
theorem mk_step {M0 M : Mem} {p r8 : Nat} {k8 : ABlk} {N st en : Int} {l1 l2 : List (List Int)} {bb o q c i : Nat} {z : Int} (h : MkSt M0 M p r8 k8 N st en l1 l2) (hN : 1 ≤ N ∧ N ≤ 7) (hl1 : l1.length < 1073741824) (hl2 : l2.length < 1073741824)
    (hld : aload Try.prog 3 ⟨bb, o + i * 1, none⟩ M = some (i64 z)) (cc0 : (decide ((((i : Nat) : Int)) < (((q : Nat) : Int)))) = true) (cc1 : (decide ((((i : Nat) : Int)) < (14 : Int))) = true) :
    ∃ T1 M', Rd Try.prog [] (q23.loopAt 0) Try.f23.ntmps (fr [(1, (sli bb o q c)), (8, (pt r8 0)), (9, (pt p 0)), (10, (i64 (((i : Nat) : Int))))]) M .normal T1 M' ∧ [1, 8, 9, 10].map T1.get = [some (sli bb o q c), some (pt r8 0), some (pt p 0), some (i64 (IntKind.wrap .i64 ((((i : Nat) : Int)) + (1 : Int))))] ∧
      MkSt M0 M' p r8 k8 N st en (bif (modI z 3) == (0 : Int) then l1 else l1 ++ [mkS N z]) (bif (modI z 3) == (0 : Int) then l2 ++ [mkF N z] else l2) := by
  obtain ⟨S, F, bs, bf, gp, hS, hF, hd⟩ := h.at_
  cases cc2 : ((modI z 3) == (0 : Int)) with
  | true =>
    simp only [cond_true]
    rcases hS with ⟨rfl, rfl⟩ | ⟨rfl, s2, s3, s4, s5, ws, s6, s7⟩ <;> rcases hF with ⟨rfl, rfl⟩ | ⟨rfl, f2, f3, f4, f5, wf, f6, f7⟩
    · obtain ⟨T1, M', b, e1, e2, e3, e4, e5, e6, e7, e8, e9, e10⟩ := r23nnF p bb o q c i r8 N st en z k8 h.ok h.ext h.np hN gp h.g8 h.d8 hld cc0 cc1 cc2
      exact ⟨T1, M', e1, e2, e3, e4, h.np, h.d8, e9, h.w1, wide_app h.w2 rfl, _, _, 0, b, e5, .inl ⟨rfl, rfl⟩, RowV.one e7 e8 e10 e6, fun x => absurd rfl x⟩
    · obtain ⟨T1, M', b, e1, e2, e3, e4, e5, e6, e7, e8, e9, e10⟩ := r23nsF p bb o q c i r8 N st en z k8 bf l2.length wf _ h.ok h.ext h.np hN gp h.g8 h.d8 hld f3 f7 f4 f5 hl2 f2 (irows_flen h.w2) f6 cc0 cc1 cc2
      exact ⟨T1, M', e1, e2, e3, e4, h.np, h.d8, e9, h.w1, wide_app h.w2 rfl, _, _, 0, b, e5, .inl ⟨rfl, rfl⟩, RowV.more e7 e8 e10 e6, fun x => absurd rfl x⟩
    · obtain ⟨T1, M', b, e1, e2, e3, e4, e5, e6, e7, e8, e9, e10, e11, e12⟩ := r23snF p bb o q c i r8 N st en z k8 bs l1.length ws _ h.ok h.ext h.np hN gp h.g8 h.d8 hld s3 s7 s4 s5 hl1 s2 (irows_flen h.w1) s6 cc0 cc1 cc2
      exact ⟨T1, M', e1, e2, e3, e4, h.np, h.d8, e9, h.w1, wide_app h.w2 rfl, _, _, bs, b, e5, .inr ⟨rfl, s2, s3, s4, s5, ws, s6, by rw [e11]; exact s7⟩, RowV.one e7 e8 e10 e6, fun _ _ => e12⟩
    · have hne : bs ≠ bf := hd (by intro x; simp [x] at s2) (by intro x; simp [x] at f2)
      obtain ⟨T1, M', b, e1, e2, e3, e4, e5, e6, e7, e8, e9, e10, e11, e12⟩ := r23ssF p bb o q c i r8 N st en z k8 bs l1.length ws _ bf l2.length wf _ h.ok h.ext h.np hN gp h.g8 h.d8 hld s3 s7 s4 s5 hl1 s2 (irows_flen h.w1) s6 f3 f7 f4 f5 hl2 f2 (irows_flen h.w2) f6 hne cc0 cc1 cc2
      exact ⟨T1, M', e1, e2, e3, e4, h.np, h.d8, e9, h.w1, wide_app h.w2 rfl, _, _, bs, b, e5, .inr ⟨rfl, s2, s3, s4, s5, ws, s6, by rw [e11]; exact s7⟩, RowV.more e7 e8 e10 e6, fun _ _ => e12⟩
  | false =>
    simp only [cond_false]
    rcases hS with ⟨rfl, rfl⟩ | ⟨rfl, s2, s3, s4, s5, ws, s6, s7⟩ <;> rcases hF with ⟨rfl, rfl⟩ | ⟨rfl, f2, f3, f4, f5, wf, f6, f7⟩
    · obtain ⟨T1, M', b, e1, e2, e3, e4, e5, e6, e7, e8, e9, e10⟩ := r23nnS p bb o q c i r8 N st en z k8 h.ok h.ext h.np hN gp h.g8 h.d8 hld cc0 cc1 cc2
      exact ⟨T1, M', e1, e2, e3, e4, h.np, h.d8, e9, wide_app h.w1 rfl, h.w2, _, _, b, 0, e5, RowV.one e7 e8 e10 e6, .inl ⟨rfl, rfl⟩, fun _ x => absurd rfl x⟩
    · obtain ⟨T1, M', b, e1, e2, e3, e4, e5, e6, e7, e8, e9, e10, e11, e12⟩ := r23nsS p bb o q c i r8 N st en z k8 bf l2.length wf _ h.ok h.ext h.np hN gp h.g8 h.d8 hld f3 f7 f4 f5 hl2 f2 (irows_flen h.w2) f6 cc0 cc1 cc2
      exact ⟨T1, M', e1, e2, e3, e4, h.np, h.d8, e9, wide_app h.w1 rfl, h.w2, _, _, b, bf, e5, RowV.one e7 e8 e10 e6, .inr ⟨rfl, f2, f3, f4, f5, wf, f6, by rw [e11]; exact f7⟩, fun _ _ => Ne.symm e12⟩
    · obtain ⟨T1, M', b, e1, e2, e3, e4, e5, e6, e7, e8, e9, e10⟩ := r23snS p bb o q c i r8 N st en z k8 bs l1.length ws _ h.ok h.ext h.np hN gp h.g8 h.d8 hld s3 s7 s4 s5 hl1 s2 (irows_flen h.w1) s6 cc0 cc1 cc2
      exact ⟨T1, M', e1, e2, e3, e4, h.np, h.d8, e9, wide_app h.w1 rfl, h.w2, _, _, b, 0, e5, RowV.more e7 e8 e10 e6, .inl ⟨rfl, rfl⟩, fun _ x => absurd rfl x⟩
    · have hne : bs ≠ bf := hd (by intro x; simp [x] at s2) (by intro x; simp [x] at f2)
      obtain ⟨T1, M', b, e1, e2, e3, e4, e5, e6, e7, e8, e9, e10, e11, e12⟩ := r23ssS p bb o q c i r8 N st en z k8 bs l1.length ws _ bf l2.length wf _ h.ok h.ext h.np hN gp h.g8 h.d8 hld s3 s7 s4 s5 hl1 s2 (irows_flen h.w1) s6 f3 f7 f4 f5 hl2 f2 (irows_flen h.w2) f6 hne cc0 cc1 cc2
      exact ⟨T1, M', e1, e2, e3, e4, h.np, h.d8, e9, wide_app h.w1 rfl, h.w2, _, _, b, bf, e5, RowV.more e7 e8 e10 e6, .inr ⟨rfl, f2, f3, f4, f5, wf, f6, by rw [e11]; exact f7⟩, fun _ _ => Ne.symm e12⟩
def stepsOf (N : Int) (ns : List Int) : List (List Int) := (ns.filter fun z => !((modI z 3) == (0 : Int))).map (mkS N)
def freesOf (N : Int) (ns : List Int) : List (List Int) := (ns.filter fun z => (modI z 3) == (0 : Int)).map (mkF N)
theorem stepsOf_snoc (N : Int) (ns : List Int) (z : Int) : stepsOf N (ns ++ [z]) = bif (modI z 3) == (0 : Int) then stepsOf N ns else stepsOf N ns ++ [mkS N z] := by
  unfold stepsOf
  cases h : ((modI z 3) == (0 : Int)) <;> simp [List.filter_append, h]
theorem freesOf_snoc (N : Int) (ns : List Int) (z : Int) : freesOf N (ns ++ [z]) = bif (modI z 3) == (0 : Int) then freesOf N ns ++ [mkF N z] else freesOf N ns := by
  unfold freesOf
  cases h : ((modI z 3) == (0 : Int)) <;> simp [List.filter_append, h]
theorem stepsOf_len (N : Int) (ns : List Int) : (stepsOf N ns).length ≤ ns.length := by unfold stepsOf; rw [List.length_map]; exact List.length_filter_le _ _
theorem freesOf_len (N : Int) (ns : List Int) : (freesOf N ns).length ≤ ns.length := by unfold freesOf; rw [List.length_map]; exact List.length_filter_le _ _
theorem loop23 {M0 : Mem} {a : Option Addr} {c : Nat} {ns : List Int} {N st en : Int} {p r8 : Nat} {k8 : ABlk} (hN : 1 ≤ N ∧ N ≤ 7) (hs0 : FlatAt 1 M0 (.slice a ns.length c) (ns.map ([·]))) : ∀ (k i : Nat), i + k = 14 → i ≤ ns.length → ∀ {M : Mem}, MkSt M0 M p r8 k8 N st en (stepsOf N (ns.take i)) (freesOf N (ns.take i)) →
    ∃ M', LoopR Try.prog [] (q23.loopAt 0) Try.f23.ntmps (fr [(1, .slice a ns.length c), (8, pt r8 0), (9, pt p 0), (10, i64 ((i : Nat) : Int))]) M (.exit 0) (fr [(8, pt r8 0), (9, pt p 0)]) M' ∧ MkSt M0 M' p r8 k8 N st en (stepsOf N (ns.take 14)) (freesOf N (ns.take 14)) := by
  intro k
  induction k with
  | zero =>
    intro i hi hin M h
    by_cases hq : i < ns.length
    · obtain ⟨T1, h1, h2⟩ := r23x_0 a p r8 ns.length c i (M := M) (FlatAt.ln hs0) (by simp; omega) (by simp; omega)
      have hi14 : i = 14 := by omega
      subst hi14
      exact ⟨M, LoopR.stop h1 (by simp) (TSub.fr (l := [(8, pt r8 0), (9, pt p 0)]) h2), h⟩
    · obtain ⟨T1, h1, h2⟩ := r23x_1 a p r8 ns.length c i (M := M) (FlatAt.ln hs0) (by simp; omega)
      refine ⟨M, LoopR.stop h1 (by simp) (TSub.fr (l := [(8, pt r8 0), (9, pt p 0)]) h2), ?_⟩
      rw [List.take_of_length_le (show ns.length ≤ i by omega)] at h
      rw [List.take_of_length_le (show ns.length ≤ 14 by omega)]
      exact h
  | succ k ih =>
    intro i hi hin M h
    by_cases hq : i < ns.length
    · have hsM := hs0.Ext h.ext
      rcases id hsM.at_ with ⟨_, _, h0⟩ | ⟨bb, o, c', blk, pre, post, e1, _⟩
      · rw [List.length_map] at h0; omega
      · have ea : a = some ⟨bb, o, none⟩ := by simp only [Value.slice.injEq] at e1; exact e1.1
        subst ea
        have hz : ns[i]? = some ns[i] := List.getElem?_eq_getElem hq
        have hld := load_flat_cell (P := Try.prog) (ty := 3) (i := i) (j := 0) (r := [ns[i]]) (z := ns[i]) hsM (by simp [hz]) rfl dC3
        have hlt1 := stepsOf_len N (ns.take i)
        have hlt2 := freesOf_len N (ns.take i)
        have htk : (ns.take i).length ≤ i := by simp; omega
        obtain ⟨T1, M1, e2, e3, e4⟩ := mk_step h hN (by omega) (by omega) (bb := bb) (o := o) (q := ns.length) (c := c) (i := i) (z := ns[i]) hld (by simp; omega) (by simp; omega)
        rw [wrap_succ (by omega)] at e3
        have htake : ns.take (i + 1) = ns.take i ++ [ns[i]] := by rw [List.take_add_one, hz]; rfl
        rw [← stepsOf_snoc, ← freesOf_snoc, ← htake] at e4
        obtain ⟨M2, f1, f2⟩ := ih (i + 1) (by omega) (by omega) e4
        exact ⟨M2, LoopR.step e2 (TSub.fr (l := [(1, sli bb o ns.length c), (8, pt r8 0), (9, pt p 0), (10, i64 ((i + 1 : Nat) : Int))]) e3) f1, f2⟩
    · obtain ⟨T1, h1, h2⟩ := r23x_1 a p r8 ns.length c i (M := M) (FlatAt.ln hs0) (by simp; omega)
      refine ⟨M, LoopR.stop h1 (by simp) (TSub.fr (l := [(8, pt r8 0), (9, pt p 0)]) h2), ?_⟩
      rw [List.take_of_length_le (show ns.length ≤ i by omega)] at h
      rw [List.take_of_length_le (show ns.length ≤ 14 by omega)]
      exact h
end Go.Proofs.Ytnpalannikpfoaa

open Go Go.Am Go.Proofs
namespace Go.Proofs.Ytnpalannikpfoaa
set_option maxRecDepth 100000
def RowN (M0 M : Mem) (el w : Nat) (S : Value) (l : List (List Int)) (b : Nat) : Prop :=
  (l = [] ∧ S = sln) ∨ (S = sli b 0 l.length l.length ∧ 0 < l.length ∧ M0.next ≤ b ∧ ∃ ws, ws ≤ l.length * w ∧ M.get b = some ⟨(irows l).flatten, el, w, ws, true⟩)
theorem RowV.new {M0 M M' : Mem} {p r8 el w : Nat} {S : Value} {l : List (List Int)} {b : Nat} (h : RowV M0 M p r8 el w S l b) (hk : ∀ id, id ≠ p → id ≠ r8 → M'.get id = M.get id) : RowN M0 M' el w S l b := by
  rcases h with h | ⟨h1, h2, h3, h4, h5, ws, h6, h7⟩
  · exact .inl h
  · exact .inr ⟨h1, h2, h3, ws, h6, by rw [hk b (Ne.symm h4) (Ne.symm h5)]; exact h7⟩
theorem RowV.shape {M0 M : Mem} {p r8 el w : Nat} {S : Value} {l : List (List Int)} {b : Nat} (h : RowV M0 M p r8 el w S l b) : ∃ a n c, S = .slice a n c := by
  rcases h with ⟨_, h⟩ | ⟨h, _⟩
  · exact ⟨_, _, _, h⟩
  · exact ⟨_, _, _, h⟩
theorem RowN.flat {M0 M : Mem} {el w : Nat} {S : Value} {l : List (List Int)} {b : Nat} (h : RowN M0 M el w S l b) (hw : ∀ r ∈ l, r.length = w) (hl : l.length ≤ 9223372036854775807) : FlatAt w M S l := by
  refine ⟨?_, hw, hl⟩
  rcases h with ⟨rfl, rfl⟩ | ⟨rfl, _, _, ws, _, h7⟩
  · exact .inl ⟨_, rfl, rfl⟩
  · exact .inr ⟨b, 0, l.length, _, [], [], rfl, h7, by simp, rfl, fun r hr => irows_wide hw r hr⟩
theorem wr_small {j : Int} (h0 : 0 ≤ j) (h1 : j < 1000) : IntKind.wrap .i64 j = j := Go.Am.wrap_small h0 (by omega)
abbrev nOf (x : Int) : Int := IntKind.wrap .i64 ((1 : Int) + (modI x 7))
theorem nOf_range (x : Int) : 1 ≤ nOf x ∧ nOf x ≤ 7 := by
  have h := modI_range (x := x) (n := 7) (by decide)
  have h2 : nOf x = 1 + modI x 7 := by
    show IntKind.wrap .i64 (1 + modI x 7) = _
    exact wr_small (by omega) (by omega)
  omega
def Qmk : List Value → Mem → Value → Mem → Prop := fun args M v M' => ∃ (x : Int) (L : Value) (ns : List Int) (y z : Int), args = [i64 x, L, i64 y, i64 z] ∧ FlatAt 1 M L (ns.map ([·])) ∧
  ∃ S F bs bf, v = .agg ⟨[i64 (nOf x), i64 (modI y (nOf x)), i64 (modI z (nOf x)), S, F]⟩ ∧ RowN M M' 48 3 S (stepsOf (nOf x) (ns.take 14)) bs ∧ RowN M M' 49 2 F (freesOf (nOf x) (ns.take 14)) bf ∧ (stepsOf (nOf x) (ns.take 14) ≠ [] → freesOf (nOf x) (ns.take 14) ≠ [] → bs ≠ bf)
theorem rK23 : Try.f23.results = #[.cell 8 28] := by kernel_rfl
theorem w23_raw (x : Int) (a : Option Addr) (c : Nat) (ns : List Int) (y z : Int) (M : Mem) (b1 : Nat) (M2 : Mem) (M11 : Mem) (b21 : Nat) (M22 : Mem) (M30 : Mem) (M40 : Mem) (M53 : Mem) (M64 : Mem) (M72 : Mem) (M80 : Mem) (S83a : Option Addr) (S83n : Nat) (S83c : Nat) (F84a : Option Addr) (F84n : Nat) (F84c : Nat) (M86 : Mem) : oT Try.prog [0] 60 Try.f23 q23 [i64 x, (.slice a ns.length c), i64 y, i64 z] M [ttV 1 (pt b1 0) M2, ttV 5 (i64 (modI x 7)) M11, ttV 11 (pt b21 0) M22, ttS 13 M30, ttL 19 (i64 (IntKind.wrap .i64 ((1 : Int) + (modI x 7)))), ttV 21 (i64 (modI y (IntKind.wrap .i64 ((1 : Int) + (modI x 7))))) M40, ttL 27 (i64 (IntKind.wrap .i64 ((1 : Int) + (modI x 7)))), ttV 29 (i64 (modI z (IntKind.wrap .i64 ((1 : Int) + (modI x 7))))) M53, ttS 33 M64, ttS 37 M72, .blk 40 [1, 8, 9, 10] .normal (fr [(8, (pt b1 0)), (9, (pt b21 0))]) M80, ttL 42 (.agg ⟨[(i64 (IntKind.wrap .i64 ((1 : Int) + (modI x 7)))), (i64 (modI y (IntKind.wrap .i64 ((1 : Int) + (modI x 7))))), (i64 (modI z (IntKind.wrap .i64 ((1 : Int) + (modI x 7))))), (.slice S83a S83n S83c), (.slice F84a F84n F84c)]⟩), ttS 44 M86] 8 = some (.ret, some (pt b1 0), M86, [.eq (aalloc Try.prog 28 M) (1, .val (pt b1 0), M2), qC 25 [(i64 x), (i64 7)] M2 (i64 (modI x 7)) M11, .eq (aalloc Try.prog 28 M11) (1, .val (pt b21 0), M22), qS 28 b21 0 (.agg ⟨[(i64 (IntKind.wrap .i64 ((1 : Int) + (modI x 7)))), (i64 0), (i64 0), sln, sln]⟩) M22 M30, qL 3 b21 0 M30 (i64 (IntKind.wrap .i64 ((1 : Int) + (modI x 7)))), qC 25 [(i64 y), (i64 (IntKind.wrap .i64 ((1 : Int) + (modI x 7))))] M30 (i64 (modI y (IntKind.wrap .i64 ((1 : Int) + (modI x 7))))) M40, qL 3 b21 0 (Mem.mk M40.blks M40.next (hides 32 [⟨5, 0, M40.next, M40.next⟩, ⟨4, 0, M40.next, M40.next⟩, ⟨3, 1, M30.next, M40.next⟩, ⟨2, 1, M30.next, M30.next⟩, ⟨1, 0, M30.next, M30.next⟩, ⟨0, 0, M30.next, M30.next⟩] ++ M30.hide) M40.log) (i64 (IntKind.wrap .i64 ((1 : Int) + (modI x 7)))), qC 25 [(i64 z), (i64 (IntKind.wrap .i64 ((1 : Int) + (modI x 7))))] (Mem.mk M40.blks M40.next M30.hide M40.log) (i64 (modI z (IntKind.wrap .i64 ((1 : Int) + (modI x 7))))) M53, qS 3 b21 1 (i64 (modI y (IntKind.wrap .i64 ((1 : Int) + (modI x 7))))) (Mem.mk M53.blks M53.next M30.hide M53.log) M64, qS 3 b21 2 (i64 (modI z (IntKind.wrap .i64 ((1 : Int) + (modI x 7))))) (Mem.mk M64.blks M64.next M30.hide M64.log) M72, .blk 0 (.loop (q23.loopAt 0)) Try.f23.ntmps [1, 8, 9, 10] [some (.slice a ns.length c), some (pt b1 0), some (pt b21 0), some (i64 0)] (Mem.mk M72.blks M72.next M30.hide M72.log) .normal (fr [(8, (pt b1 0)), (9, (pt b21 0))]) M80, qL 28 b21 0 M80 (.agg ⟨[(i64 (IntKind.wrap .i64 ((1 : Int) + (modI x 7)))), (i64 (modI y (IntKind.wrap .i64 ((1 : Int) + (modI x 7))))), (i64 (modI z (IntKind.wrap .i64 ((1 : Int) + (modI x 7))))), (.slice S83a S83n S83c), (.slice F84a F84n F84c)]⟩), qS 28 b1 0 (.agg ⟨[(i64 (IntKind.wrap .i64 ((1 : Int) + (modI x 7)))), (i64 (modI y (IntKind.wrap .i64 ((1 : Int) + (modI x 7))))), (i64 (modI z (IntKind.wrap .i64 ((1 : Int) + (modI x 7))))), (.slice S83a S83n S83c), (.slice F84a F84n F84c)]⟩) M80 M86]) := by kernel_rfl
theorem con23 (x : Int) (a : Option Addr) (c : Nat) (ns : List Int) (y z : Int) {M : Mem} (hM : MemOk M) (hs : FlatAt 1 M (.slice a ns.length c) (ns.map ([·]))) : ∃ v M', Con Try.prog [] 23 Qmk [i64 x, (.slice a ns.length c), i64 y, i64 z] M v M' := by
  have hN : 1 ≤ IntKind.wrap .i64 ((1 : Int) + (modI x 7)) ∧ IntKind.wrap .i64 ((1 : Int) + (modI x 7)) ≤ 7 := nOf_range x
  obtain ⟨b1, M2, eb3, em4, g5, E6, hM7⟩ := new_t hM ⟨[(i64 0), (i64 0), (i64 0), sln, sln], 28, 5, 0, true⟩
  have nb1 : M.next ≤ b1 := by rw [← eb3]; exact (Ext.refl M).next
  have X8 := (Ext.refl M).trans E6
  obtain ⟨w9, N10, M11, p12, l13, e14, E15, hM16, Q17, G18⟩ := call_t (P := Try.prog) (GL := []) (f := 25) hM7 (con25 x 7 (by decide))
  have g19 := E15.old g5
  have ew9 : w9 = (i64 (modI x 7)) := (Option.some.inj Q17.1).symm
  subst ew9
  have nxM11 : M11.next = M2.next := by rw [← e14]; exact Q17.2
  have X20 := X8.trans E15
  obtain ⟨b21, M22, eb23, em24, g25, E26, hM27⟩ := new_t hM16 ⟨[(i64 0), (i64 0), (i64 0), sln, sln], 28, 5, 0, true⟩
  have nb21 : M.next ≤ b21 := by rw [← eb23]; exact X20.next
  have db1b21 : b1 ≠ b21 := by have := Mem.lt_of_get g19; omega
  have g28 := E26.old g19
  have X29 := X20.trans E26
  obtain ⟨M30, q31, g32, kp33, X34, hM35, nx36⟩ := store_t (o := 0) (v := (.agg ⟨[(i64 (IntKind.wrap .i64 ((1 : Int) + (modI x 7)))), (i64 0), (i64 0), sln, sln]⟩)) (new := [(i64 (IntKind.wrap .i64 ((1 : Int) + (modI x 7)))), (i64 0), (i64 0), sln, sln]) X29 nb21 hM27 dS28 g25 rfl rfl (Nat.zero_le _) (Nat.le_of_ble_eq_true rfl) rfl
  replace g32 : M30.get b21 = some ⟨[(i64 (IntKind.wrap .i64 ((1 : Int) + (modI x 7)))), (i64 0), (i64 0), sln, sln], 28, 5, 0, true⟩ := g32
  have g37 := (kp33 _ db1b21).trans g28
  obtain ⟨w38, N39, M40, p41, l42, e43, E44, hM45, Q46, G47⟩ := call_t (P := Try.prog) (GL := []) (f := 25) hM35 (con25 y (IntKind.wrap .i64 ((1 : Int) + (modI x 7))) (by simp <;> omega))
  have g48 := E44.old g37
  have g49 := E44.old g32
  have ew38 : w38 = (i64 (modI y (IntKind.wrap .i64 ((1 : Int) + (modI x 7))))) := (Option.some.inj Q46.1).symm
  subst ew38
  have nxM40 : M40.next = M30.next := by rw [← e43]; exact Q46.2
  have X50 := X34.trans E44
  obtain ⟨w51, N52, M53, p54, l55, e56, E57, hM58, Q59, G60⟩ := call_t (P := Try.prog) (GL := []) (f := 25) hM45 (con25 z (IntKind.wrap .i64 ((1 : Int) + (modI x 7))) (by simp <;> omega))
  have g61 := E57.old g48
  have g62 := E57.old g49
  have ew51 : w51 = (i64 (modI z (IntKind.wrap .i64 ((1 : Int) + (modI x 7))))) := (Option.some.inj Q59.1).symm
  subst ew51
  have nxM53 : M53.next = M40.next := by rw [← e56]; exact Q59.2
  have X63 := X50.trans E57
  obtain ⟨M64, q65, g66, kp67, X68, hM69, nx70⟩ := store_t (o := 1) (v := (i64 (modI y (IntKind.wrap .i64 ((1 : Int) + (modI x 7)))))) (new := [(i64 (IntKind.wrap .i64 ((1 : Int) + (modI x 7)))), (i64 (modI y (IntKind.wrap .i64 ((1 : Int) + (modI x 7))))), (i64 0), sln, sln]) X63 nb21 hM58 dS3 g62 rfl rfl (Nat.zero_le _) (Nat.le_of_ble_eq_true rfl) rfl
  replace g66 : M64.get b21 = some ⟨[(i64 (IntKind.wrap .i64 ((1 : Int) + (modI x 7)))), (i64 (modI y (IntKind.wrap .i64 ((1 : Int) + (modI x 7))))), (i64 0), sln, sln], 28, 5, 0, true⟩ := g66
  have g71 := (kp67 _ db1b21).trans g61
  obtain ⟨M72, q73, g74, kp75, X76, hM77, nx78⟩ := store_t (o := 2) (v := (i64 (modI z (IntKind.wrap .i64 ((1 : Int) + (modI x 7)))))) (new := [(i64 (IntKind.wrap .i64 ((1 : Int) + (modI x 7)))), (i64 (modI y (IntKind.wrap .i64 ((1 : Int) + (modI x 7))))), (i64 (modI z (IntKind.wrap .i64 ((1 : Int) + (modI x 7))))), sln, sln]) X68 nb21 hM69 dS3 g66 rfl rfl (Nat.zero_le _) (Nat.le_of_ble_eq_true rfl) rfl
  replace g74 : M72.get b21 = some ⟨[(i64 (IntKind.wrap .i64 ((1 : Int) + (modI x 7)))), (i64 (modI y (IntKind.wrap .i64 ((1 : Int) + (modI x 7))))), (i64 (modI z (IntKind.wrap .i64 ((1 : Int) + (modI x 7))))), sln, sln], 28, 5, 0, true⟩ := g74
  have g79 := (kp75 _ db1b21).trans g71
  have hstq85 : MkSt M M72 b21 b1 ⟨[(i64 0), (i64 0), (i64 0), sln, sln], 28, 5, 0, true⟩ (nOf x) ((modI y (IntKind.wrap .i64 ((1 : Int) + (modI x 7))))) ((modI z (IntKind.wrap .i64 ((1 : Int) + (modI x 7))))) (stepsOf (nOf x) (ns.take 0)) (freesOf (nOf x) (ns.take 0)) := ⟨X76, hM77, nb21, Ne.symm db1b21, g79, (fun r hr => by simp [stepsOf] at hr), (fun r hr => by simp [freesOf] at hr), _, _, 0, 0, g74, .inl ⟨rfl, rfl⟩, .inl ⟨rfl, rfl⟩, fun z => absurd rfl z⟩
  obtain ⟨M80, hL81, hS82⟩ := loop23 (nOf_range x) hs 14 0 (by omega) (Nat.zero_le _) hstq85
  obtain ⟨S83, F84, q85bs, q85bf, q85gp, q85S, q85F, q85d⟩ := hS82.at_
  obtain ⟨S83a, S83n, S83c, rfl⟩ := q85S.shape
  obtain ⟨F84a, F84n, F84c, rfl⟩ := q85F.shape
  have h8q85 := hS82.g8
  obtain ⟨M86, q87, g88, kp89, X90, hM91, nx92⟩ := store_t (o := 0) (v := (.agg ⟨[(i64 (IntKind.wrap .i64 ((1 : Int) + (modI x 7)))), (i64 (modI y (IntKind.wrap .i64 ((1 : Int) + (modI x 7))))), (i64 (modI z (IntKind.wrap .i64 ((1 : Int) + (modI x 7))))), (.slice S83a S83n S83c), (.slice F84a F84n F84c)]⟩)) (new := [(i64 (IntKind.wrap .i64 ((1 : Int) + (modI x 7)))), (i64 (modI y (IntKind.wrap .i64 ((1 : Int) + (modI x 7))))), (i64 (modI z (IntKind.wrap .i64 ((1 : Int) + (modI x 7))))), (.slice S83a S83n S83c), (.slice F84a F84n F84c)]) hS82.ext nb1 hS82.ok dS28 h8q85 rfl rfl (Nat.zero_le _) (Nat.le_of_ble_eq_true rfl) rfl
  replace g88 : M86.get b1 = some ⟨[(i64 (IntKind.wrap .i64 ((1 : Int) + (modI x 7)))), (i64 (modI y (IntKind.wrap .i64 ((1 : Int) + (modI x 7))))), (i64 (modI z (IntKind.wrap .i64 ((1 : Int) + (modI x 7))))), (.slice S83a S83n S83c), (.slice F84a F84n F84c)], 28, 5, 0, true⟩ := g88
  have g93 := (kp89 _ (Ne.symm db1b21)).trans q85gp
  have hraw := w23_raw x a c ns y z M b1 M2 M11 b21 M22 M30 M40 M53 M64 M72 M80 S83a S83n S83c F84a F84n F84c M86
  have rw0 : Mem.mk M40.blks M40.next M30.hide M40.log = M40 := by rw [(show M30.hide = M40.hide from ((X34).hide.trans (X50).hide.symm))]
  have rw1 : Mem.mk M40.blks M40.next (hides 0 [⟨3, 1, M30.next, M40.next⟩, ⟨2, 1, M30.next, M30.next⟩, ⟨1, 0, M30.next, M30.next⟩, ⟨0, 0, M30.next, M30.next⟩] ++ M30.hide) M40.log = M40 := by rw [show hides 0 [⟨3, 1, M30.next, M40.next⟩, ⟨2, 1, M30.next, M30.next⟩, ⟨1, 0, M30.next, M30.next⟩, ⟨0, 0, M30.next, M30.next⟩] = [] from by simp [hides, Nat.beq_refl, nxM40, show Nat.beq 1 0 = false from rfl], (show M30.hide = M40.hide from ((X34).hide.trans (X50).hide.symm))]; rfl
  have rw2 : Mem.mk M40.blks M40.next (hides 0 [⟨4, 0, M40.next, M40.next⟩, ⟨3, 1, M30.next, M40.next⟩, ⟨2, 1, M30.next, M30.next⟩, ⟨1, 0, M30.next, M30.next⟩, ⟨0, 0, M30.next, M30.next⟩] ++ M30.hide) M40.log = M40 := by rw [show hides 0 [⟨4, 0, M40.next, M40.next⟩, ⟨3, 1, M30.next, M40.next⟩, ⟨2, 1, M30.next, M30.next⟩, ⟨1, 0, M30.next, M30.next⟩, ⟨0, 0, M30.next, M30.next⟩] = [] from by simp [hides, Nat.beq_refl, nxM40, show Nat.beq 1 0 = false from rfl], (show M30.hide = M40.hide from ((X34).hide.trans (X50).hide.symm))]; rfl
  have rw3 : Mem.mk M40.blks M40.next (hides 32 [⟨5, 0, M40.next, M40.next⟩, ⟨4, 0, M40.next, M40.next⟩, ⟨3, 1, M30.next, M40.next⟩, ⟨2, 1, M30.next, M30.next⟩, ⟨1, 0, M30.next, M30.next⟩, ⟨0, 0, M30.next, M30.next⟩] ++ M30.hide) M40.log = M40 := by rw [show hides 32 [⟨5, 0, M40.next, M40.next⟩, ⟨4, 0, M40.next, M40.next⟩, ⟨3, 1, M30.next, M40.next⟩, ⟨2, 1, M30.next, M30.next⟩, ⟨1, 0, M30.next, M30.next⟩, ⟨0, 0, M30.next, M30.next⟩] = [] from by simp [hides, Nat.beq_refl, nxM40, show Nat.beq 1 0 = false from rfl], (show M30.hide = M40.hide from ((X34).hide.trans (X50).hide.symm))]; rfl
  have rw4 : Mem.mk M53.blks M53.next M30.hide M53.log = M53 := by rw [(show M30.hide = M53.hide from ((X34).hide.trans (X63).hide.symm))]
  have rw5 : Mem.mk M53.blks M53.next (hides 111 [⟨7, 1, M40.next, M53.next⟩, ⟨6, 1, M40.next, M40.next⟩, ⟨5, 0, M40.next, M40.next⟩, ⟨4, 0, M40.next, M40.next⟩, ⟨3, 1, M30.next, M40.next⟩, ⟨2, 1, M30.next, M30.next⟩, ⟨1, 0, M30.next, M30.next⟩, ⟨0, 0, M30.next, M30.next⟩] ++ M30.hide) M53.log = M53 := by rw [show hides 111 [⟨7, 1, M40.next, M53.next⟩, ⟨6, 1, M40.next, M40.next⟩, ⟨5, 0, M40.next, M40.next⟩, ⟨4, 0, M40.next, M40.next⟩, ⟨3, 1, M30.next, M40.next⟩, ⟨2, 1, M30.next, M30.next⟩, ⟨1, 0, M30.next, M30.next⟩, ⟨0, 0, M30.next, M30.next⟩] = [] from by simp [hides, Nat.beq_refl, nxM40, nxM53, show Nat.beq 1 0 = false from rfl, show Nat.testBit 111 2 = true from rfl, show Nat.testBit 111 3 = true from rfl, show Nat.testBit 111 6 = true from rfl], (show M30.hide = M53.hide from ((X34).hide.trans (X63).hide.symm))]; rfl
  have rw6 : Mem.mk M64.blks M64.next M30.hide M64.log = M64 := by rw [(show M30.hide = M64.hide from ((X34).hide.trans (X68).hide.symm))]
  have rw7 : Mem.mk M72.blks M72.next M30.hide M72.log = M72 := by rw [(show M30.hide = M72.hide from ((X34).hide.trans (X76).hide.symm))]
  try rw [rw0] at hraw
  try rw [rw1] at hraw
  try rw [rw2] at hraw
  try rw [rw3] at hraw
  try rw [rw4] at hraw
  try rw [rw5] at hraw
  try rw [rw6] at hraw
  try rw [rw7] at hraw
  have hres := aload_agg (a := ⟨b1, 0, none⟩) dA28 dS28 g88 rfl
  have hkeep : ∀ id, id ≠ b21 → id ≠ b1 → M86.get id = M80.get id := fun id h1 h2 => kp89 id h2
  exact ⟨_, _, Ev.told_cell noNumP mixedP Try.func23 q23_ok (by kernel_rfl) rK23 (fun B => specsB_ok (hS23_25 B) (k := [(0, bone (.loop (q23.loopAt 0)) Try.f23.ntmps [1, 8, 9, 10] [some (.slice a ns.length c), some (pt b1 0), some (pt b21 0), some (i64 0)] M72 .normal (fr [(8, (pt b1 0)), (9, (pt b21 0))]) M80)]) (fun p hp => by simp only [List.mem_cons, List.not_mem_nil, or_false] at hp; rcases hp with rfl <;> first | exact BlkOk.loop noNumP mixedP hL81)) (fun _ h => blksF_one h) hraw hres (hk (q_eq (by rw [← eb3, ← em4]; kernel_rfl) Nat.one_ne_zero) (hk (q_call rfl p12 l13 e14) (hk (q_eq (by rw [← eb23, ← em24]; kernel_rfl) Nat.one_ne_zero) (hk (q_st q31) (hk (lC dC3 g32 rfl) (hk (q_call rfl p41 l42 e43) (hk (lC dC3 g49 rfl) (hk (q_call rfl p54 l55 e56) (hk (q_st q65) (hk (q_st q73) (hk (q_blk rfl) (hk (lA ⟨dA28, dS28⟩ q85gp rfl) (hk (q_st q87) hn))))))))))))), X90, x, _, ns, y, z, rfl, hs, _, _, q85bs, q85bf, rfl, q85S.new hkeep, q85F.new hkeep, q85d⟩
end Go.Proofs.Ytnpalannikpfoaa

open Go Go.Am Go.Proofs
namespace Go.Proofs.Ytnpalannikpfoaa
set_option maxRecDepth 100000
theorem lackB_mod (N x : Int) (hN : 1 ≤ N ∧ N ≤ 7) : lackB N (modI x N) = false := by
  have h := modI_range (x := x) (n := N) (by omega)
  simp [lackB]
  omega
theorem pS_mk (N z : Int) (hN : 1 ≤ N ∧ N ≤ 7) : pS N (mkS N z) = false := by
  have h := modI_range (x := IntKind.wrap .i64 (z.tdiv (170 : Int))) (n := 31) (by decide)
  have hw : IntKind.wrap .i64 ((1 : Int) + modI (IntKind.wrap .i64 (z.tdiv (170 : Int))) (31 : Int)) = 1 + modI (IntKind.wrap .i64 (z.tdiv (170 : Int))) (31 : Int) := wr_small (by omega) (by omega)
  simp only [pS, mkS, lackS, lackB_mod N _ hN, hw, Bool.false_or]
  simp
  omega
theorem pF_mk (N z : Int) (hN : 1 ≤ N ∧ N ≤ 7) : pF N (mkF N z) = false := by
  simp only [pF, mkF, lackF, lackB_mod N _ hN, Bool.or_false]
theorem mk_right (N y z : Int) (hN : 1 ≤ N ∧ N ≤ 7) (ns : List Int) (hns : ns.length ≤ 14) : chkB N (modI y N) (modI z N) (stepsOf N ns) (freesOf N ns) = true := by
  have h1 := stepsOf_len N ns
  have h2 := freesOf_len N ns
  have a1 : (stepsOf N ns).any (pS N) = false := by
    rw [List.any_eq_false]
    intro r hr
    obtain ⟨k, _, rfl⟩ := List.mem_map.1 hr
    simp [pS_mk N k hN]
  have a2 : (freesOf N ns).any (pF N) = false := by
    rw [List.any_eq_false]
    intro r hr
    obtain ⟨k, _, rfl⟩ := List.mem_map.1 hr
    simp [pF_mk N k hN]
  simp only [chkB, lackB_mod N _ hN, a1, a2]
  simp
  omega
theorem stepsOf_wide (N : Int) (ns : List Int) : ∀ r ∈ stepsOf N ns, r.length = 3 := fun r hr => by
  obtain ⟨k, _, rfl⟩ := List.mem_map.1 hr
  rfl
theorem freesOf_wide (N : Int) (ns : List Int) : ∀ r ∈ freesOf N ns, r.length = 2 := fun r hr => by
  obtain ⟨k, _, rfl⟩ := List.mem_map.1 hr
  rfl
theorem one_inj : ∀ {l1 l2 : List Int}, l1.map ([·]) = l2.map ([·]) → l1 = l2
  | [], [], _ => rfl
  | [], _ :: _, h => by simp at h
  | _ :: _, [], h => by simp at h
  | a :: l1, b :: l2, h => by
    simp only [List.map_cons, List.cons.injEq, and_true] at h
    rw [h.1, one_inj h.2]
theorem Qmk.val {x y z : Int} {L v : Value} {ns : List Int} {M M' : Mem} (hs : FlatAt 1 M L (ns.map ([·]))) (hq : Qmk [i64 x, L, i64 y, i64 z] M v M') :
    ∃ S F bs bf, v = .agg ⟨[i64 (nOf x), i64 (modI y (nOf x)), i64 (modI z (nOf x)), S, F]⟩ ∧ RowN M M' 48 3 S (stepsOf (nOf x) (ns.take 14)) bs ∧ RowN M M' 49 2 F (freesOf (nOf x) (ns.take 14)) bf ∧ (stepsOf (nOf x) (ns.take 14) ≠ [] → freesOf (nOf x) (ns.take 14) ≠ [] → bs ≠ bf) := by
  obtain ⟨x', L', ns', y', z', h1, h2, h3⟩ := hq
  simp only [List.cons.injEq, and_true] at h1
  obtain ⟨e1, rfl, e2, e3⟩ := h1
  have e1 : x = x' := by simpa [i64] using e1
  have e2 : y = y' := by simpa [i64] using e2
  have e3 : z = z' := by simpa [i64] using e3
  have e4 := one_inj (hs.unique h2)
  subst e1 e2 e3 e4
  exact h3
end Go.Proofs.Ytnpalannikpfoaa

open Go Go.Am Go.Proofs
namespace Go.Proofs.Ytnpalannikpfoaa
set_option maxRecDepth 100000
theorem s5_0_raw (p : Nat) (_ _ _ v : Int) (_ : Option Addr) (_ _ : Nat) (_ : Option Addr) (_ _ : Nat) (M : Mem) (M1 : Mem) : oR Try.prog [] 60 Try.f5 (.block 0 (q5.blkAt 0)) [(5, (i64 v)), (13, (pt p 0)), (36, (i64 0))] M [ttS 10 M1] [13] = some (.normal, [some (pt p 0)], M1, [qS 3 p 1 (i64 v) M M1]) := by kernel_rfl
theorem s5_0 (p : Nat) (N st en v : Int) (sa : Option Addr) (sn sc : Nat) (fa : Option Addr) (fn fc : Nat) {M : Mem} (hM : MemOk M) {M0 : Mem} (X0 : Ext M0 M) (np : M0.next ≤ p) (_ : 1 ≤ N ∧ N ≤ 7) (gp : M.get p = some ⟨[(i64 N), (i64 st), (i64 en), (.slice sa sn sc), (.slice fa fn fc)], 28, 5, 0, true⟩) : ∃ T1 M', Rd Try.prog [] (.block 0 (q5.blkAt 0)) Try.f5.ntmps (fr [(5, (i64 v)), (13, (pt p 0)), (36, (i64 0))]) M .normal T1 M' ∧ [13].map T1.get = [some (pt p 0)] ∧ Ext M0 M' ∧ MemOk M' ∧ M'.get p = some ⟨[(i64 N), (i64 v), (i64 en), (.slice sa sn sc), (.slice fa fn fc)], 28, 5, 0, true⟩ ∧ ∀ id k, M.get id = some k → id ≠ p → M'.get id = some k := by
  obtain ⟨M1, q2, g3, kp4, X5, hM6, nx7⟩ := store_t (o := 1) (v := (i64 v)) (new := [(i64 N), (i64 v), (i64 en), (.slice sa sn sc), (.slice fa fn fc)]) X0 np hM dS3 gp rfl rfl (Nat.zero_le _) (Nat.le_of_ble_eq_true rfl) rfl
  replace g3 : M1.get p = some ⟨[(i64 N), (i64 v), (i64 en), (.slice sa sn sc), (.slice fa fn fc)], 28, 5, 0, true⟩ := g3
  have hraw := s5_0_raw p N st en v sa sn sc fa fn fc M M1
  have hkp : ∀ id k, M.get id = some k → id ≠ p → M1.get id = some k := fun id k g hp => by
    have g := ((fun id h _ => kp4 id h) id hp (Mem.lt_of_get g)).trans g
    exact g
  obtain ⟨T1, h1, h2⟩ := Rd.told noNumP mixedP (specs_none Try.prog) (fun _ _ => rfl) hraw (hk (q_st q2) hn)
  exact ⟨T1, M1, h1, h2, X5, hM6, g3, hkp⟩
theorem s5_1_raw (p : Nat) (N _ _ v : Int) (_ : Option Addr) (_ _ : Nat) (_ : Option Addr) (_ _ : Nat) (M : Mem) (M1 : Mem) : oR Try.prog [] 60 Try.f5 (.block 0 (q5.blkAt 0)) [(5, (i64 v)), (13, (pt p 0)), (36, (i64 1))] M [ttL 13 (i64 N), ttS 17 M1] [13] = some (.normal, [some (pt p 0)], M1, [qL 3 p 0 M (i64 N), qS 3 p 2 (i64 N) M M1]) := by kernel_rfl
theorem s5_1 (p : Nat) (N st en v : Int) (sa : Option Addr) (sn sc : Nat) (fa : Option Addr) (fn fc : Nat) {M : Mem} (hM : MemOk M) {M0 : Mem} (X0 : Ext M0 M) (np : M0.next ≤ p) (_ : 1 ≤ N ∧ N ≤ 7) (gp : M.get p = some ⟨[(i64 N), (i64 st), (i64 en), (.slice sa sn sc), (.slice fa fn fc)], 28, 5, 0, true⟩) : ∃ T1 M', Rd Try.prog [] (.block 0 (q5.blkAt 0)) Try.f5.ntmps (fr [(5, (i64 v)), (13, (pt p 0)), (36, (i64 1))]) M .normal T1 M' ∧ [13].map T1.get = [some (pt p 0)] ∧ Ext M0 M' ∧ MemOk M' ∧ M'.get p = some ⟨[(i64 N), (i64 st), (i64 N), (.slice sa sn sc), (.slice fa fn fc)], 28, 5, 0, true⟩ ∧ ∀ id k, M.get id = some k → id ≠ p → M'.get id = some k := by
  obtain ⟨M1, q2, g3, kp4, X5, hM6, nx7⟩ := store_t (o := 2) (v := (i64 N)) (new := [(i64 N), (i64 st), (i64 N), (.slice sa sn sc), (.slice fa fn fc)]) X0 np hM dS3 gp rfl rfl (Nat.zero_le _) (Nat.le_of_ble_eq_true rfl) rfl
  replace g3 : M1.get p = some ⟨[(i64 N), (i64 st), (i64 N), (.slice sa sn sc), (.slice fa fn fc)], 28, 5, 0, true⟩ := g3
  have hraw := s5_1_raw p N st en v sa sn sc fa fn fc M M1
  have hkp : ∀ id k, M.get id = some k → id ≠ p → M1.get id = some k := fun id k g hp => by
    have g := ((fun id h _ => kp4 id h) id hp (Mem.lt_of_get g)).trans g
    exact g
  obtain ⟨T1, h1, h2⟩ := Rd.told noNumP mixedP (specs_none Try.prog) (fun _ _ => rfl) hraw (hk (lC dC3 gp rfl) (hk (q_st q2) hn))
  exact ⟨T1, M1, h1, h2, X5, hM6, g3, hkp⟩
theorem hS5_25 (B : Nat) : ∀ p ∈ ([(25, pick (Con Try.prog [] 25 Q25))] : List (FuncId × (List Value → Mem → Option (Value × Mem)))), SpecOk Try.prog [] B p.1 p.2 := (fun p hp => by simp only [List.mem_cons, List.not_mem_nil, or_false] at hp; rcases hp with rfl <;> first | exact Con.ok _)
theorem s5_2_0_raw (p : Nat) (_ _ _ v : Int) (_ : Option Addr) (_ _ : Nat) (_ : Option Addr) (_ _ : Nat) (M : Mem) (b1 : Nat) (M2 : Mem) (M12 : Mem) (M23 : Mem) : oR Try.prog [] 60 Try.f5 (.block 0 (q5.blkAt 0)) [(5, (i64 v)), (13, (pt p 0)), (36, (i64 2))] M [ttV 18 (sli b1 0 5 6) M2, ttV 22 (i64 0) M12, ttL 26 (i64 0), ttS 30 M23] [13] = some (.normal, [some (pt p 0)], M23, [.eq (abuildSlice Try.prog 40 5 [(0, (i64 0)), (1, (i64 1)), (2, (i64 1000)), (3, (i64 1001)), (4, (i64 v))] M) (1, .val (sli b1 0 5 6), M2), qC 25 [(i64 v), (i64 5)] M2 (i64 0) M12, qL 3 b1 0 M12 (i64 0), qS 3 p 0 (i64 0) M12 M23]) := by kernel_rfl
theorem s5_2_0 (p : Nat) (N st en v : Int) (sa : Option Addr) (sn sc : Nat) (fa : Option Addr) (fn fc : Nat) {M : Mem} (hM : MemOk M) {M0 : Mem} (X0 : Ext M0 M) (np : M0.next ≤ p) (_ : 1 ≤ N ∧ N ≤ 7) (gp : M.get p = some ⟨[(i64 N), (i64 st), (i64 en), (.slice sa sn sc), (.slice fa fn fc)], 28, 5, 0, true⟩) (cc0 : modI v 5 = 0) : ∃ T1 M', Rd Try.prog [] (.block 0 (q5.blkAt 0)) Try.f5.ntmps (fr [(5, (i64 v)), (13, (pt p 0)), (36, (i64 2))]) M .normal T1 M' ∧ [13].map T1.get = [some (pt p 0)] ∧ Ext M0 M' ∧ MemOk M' ∧ M'.get p = some ⟨[(i64 0), (i64 st), (i64 en), (.slice sa sn sc), (.slice fa fn fc)], 28, 5, 0, true⟩ ∧ ∀ id k, M.get id = some k → id ≠ p → M'.get id = some k := by
  obtain ⟨b1, M2, eb3, em4, g5, E6, hM7⟩ := new_t hM ⟨[(i64 0), (i64 1), (i64 1000), (i64 1001), (i64 v)], 3, 1, 0, true⟩
  have nb1 : M0.next ≤ b1 := by rw [← eb3]; exact X0.next
  have dpb1 : p ≠ b1 := by have := Mem.lt_of_get gp; omega
  have g8 := E6.old gp
  have X9 := X0.trans E6
  obtain ⟨w10, N11, M12, p13, l14, e15, E16, hM17, Q18, G19⟩ := call_t (P := Try.prog) (GL := []) (f := 25) hM7 (con25 v 5 (by decide))
  have g20 := E16.old g8
  have g21 := E16.old g5
  have ew10 : w10 = i64 0 := by
    have h : i64 (modI v 5) = w10 := Option.some.inj Q18.1
    rw [← h, cc0]
  subst ew10
  have nxM12 : M12.next = M2.next := by rw [← e15]; exact Q18.2
  have X22 := X9.trans E16
  obtain ⟨M23, q24, g25, kp26, X27, hM28, nx29⟩ := store_t (o := 0) (v := (i64 0)) (new := [(i64 0), (i64 st), (i64 en), (.slice sa sn sc), (.slice fa fn fc)]) X22 np hM17 dS3 g20 rfl rfl (Nat.zero_le _) (Nat.le_of_ble_eq_true rfl) rfl
  replace g25 : M23.get p = some ⟨[(i64 0), (i64 st), (i64 en), (.slice sa sn sc), (.slice fa fn fc)], 28, 5, 0, true⟩ := g25
  have g30 := (kp26 _ (Ne.symm dpb1)).trans g21
  have hraw := s5_2_0_raw p N st en v sa sn sc fa fn fc M b1 M2 M12 M23
  have hkp : ∀ id k, M.get id = some k → id ≠ p → M23.get id = some k := fun id k g hp => by
    have g := E6.old g
    have g := E16.old g
    have g := ((fun id h _ => kp26 id h) id hp (Mem.lt_of_get g)).trans g
    exact g
  obtain ⟨T1, h1, h2⟩ := Rd.told noNumP mixedP (fun B => specsB_ok (k := []) (hS5_25 B) (fun p hp => by cases hp)) (fun _ _ => rfl) hraw (hk (q_eq (by rw [← eb3, ← em4]; kernel_rfl) Nat.one_ne_zero) (hk (q_call rfl p13 l14 e15) (hk (lC dC3 g21 rfl) (hk (q_st q24) hn))))
  exact ⟨T1, M23, h1, h2, X27, hM28, g25, hkp⟩
theorem s5_2_1_raw (p : Nat) (_ _ _ v : Int) (_ : Option Addr) (_ _ : Nat) (_ : Option Addr) (_ _ : Nat) (M : Mem) (b1 : Nat) (M2 : Mem) (M12 : Mem) (M23 : Mem) : oR Try.prog [] 60 Try.f5 (.block 0 (q5.blkAt 0)) [(5, (i64 v)), (13, (pt p 0)), (36, (i64 2))] M [ttV 18 (sli b1 0 5 6) M2, ttV 22 (i64 1) M12, ttL 26 (i64 1), ttS 30 M23] [13] = some (.normal, [some (pt p 0)], M23, [.eq (abuildSlice Try.prog 40 5 [(0, (i64 0)), (1, (i64 1)), (2, (i64 1000)), (3, (i64 1001)), (4, (i64 v))] M) (1, .val (sli b1 0 5 6), M2), qC 25 [(i64 v), (i64 5)] M2 (i64 1) M12, qL 3 b1 1 M12 (i64 1), qS 3 p 0 (i64 1) M12 M23]) := by kernel_rfl
theorem s5_2_1 (p : Nat) (N st en v : Int) (sa : Option Addr) (sn sc : Nat) (fa : Option Addr) (fn fc : Nat) {M : Mem} (hM : MemOk M) {M0 : Mem} (X0 : Ext M0 M) (np : M0.next ≤ p) (_ : 1 ≤ N ∧ N ≤ 7) (gp : M.get p = some ⟨[(i64 N), (i64 st), (i64 en), (.slice sa sn sc), (.slice fa fn fc)], 28, 5, 0, true⟩) (cc0 : modI v 5 = 1) : ∃ T1 M', Rd Try.prog [] (.block 0 (q5.blkAt 0)) Try.f5.ntmps (fr [(5, (i64 v)), (13, (pt p 0)), (36, (i64 2))]) M .normal T1 M' ∧ [13].map T1.get = [some (pt p 0)] ∧ Ext M0 M' ∧ MemOk M' ∧ M'.get p = some ⟨[(i64 1), (i64 st), (i64 en), (.slice sa sn sc), (.slice fa fn fc)], 28, 5, 0, true⟩ ∧ ∀ id k, M.get id = some k → id ≠ p → M'.get id = some k := by
  obtain ⟨b1, M2, eb3, em4, g5, E6, hM7⟩ := new_t hM ⟨[(i64 0), (i64 1), (i64 1000), (i64 1001), (i64 v)], 3, 1, 0, true⟩
  have nb1 : M0.next ≤ b1 := by rw [← eb3]; exact X0.next
  have dpb1 : p ≠ b1 := by have := Mem.lt_of_get gp; omega
  have g8 := E6.old gp
  have X9 := X0.trans E6
  obtain ⟨w10, N11, M12, p13, l14, e15, E16, hM17, Q18, G19⟩ := call_t (P := Try.prog) (GL := []) (f := 25) hM7 (con25 v 5 (by decide))
  have g20 := E16.old g8
  have g21 := E16.old g5
  have ew10 : w10 = i64 1 := by
    have h : i64 (modI v 5) = w10 := Option.some.inj Q18.1
    rw [← h, cc0]
  subst ew10
  have nxM12 : M12.next = M2.next := by rw [← e15]; exact Q18.2
  have X22 := X9.trans E16
  obtain ⟨M23, q24, g25, kp26, X27, hM28, nx29⟩ := store_t (o := 0) (v := (i64 1)) (new := [(i64 1), (i64 st), (i64 en), (.slice sa sn sc), (.slice fa fn fc)]) X22 np hM17 dS3 g20 rfl rfl (Nat.zero_le _) (Nat.le_of_ble_eq_true rfl) rfl
  replace g25 : M23.get p = some ⟨[(i64 1), (i64 st), (i64 en), (.slice sa sn sc), (.slice fa fn fc)], 28, 5, 0, true⟩ := g25
  have g30 := (kp26 _ (Ne.symm dpb1)).trans g21
  have hraw := s5_2_1_raw p N st en v sa sn sc fa fn fc M b1 M2 M12 M23
  have hkp : ∀ id k, M.get id = some k → id ≠ p → M23.get id = some k := fun id k g hp => by
    have g := E6.old g
    have g := E16.old g
    have g := ((fun id h _ => kp26 id h) id hp (Mem.lt_of_get g)).trans g
    exact g
  obtain ⟨T1, h1, h2⟩ := Rd.told noNumP mixedP (fun B => specsB_ok (k := []) (hS5_25 B) (fun p hp => by cases hp)) (fun _ _ => rfl) hraw (hk (q_eq (by rw [← eb3, ← em4]; kernel_rfl) Nat.one_ne_zero) (hk (q_call rfl p13 l14 e15) (hk (lC dC3 g21 rfl) (hk (q_st q24) hn))))
  exact ⟨T1, M23, h1, h2, X27, hM28, g25, hkp⟩
theorem s5_2_2_raw (p : Nat) (_ _ _ v : Int) (_ : Option Addr) (_ _ : Nat) (_ : Option Addr) (_ _ : Nat) (M : Mem) (b1 : Nat) (M2 : Mem) (M12 : Mem) (M23 : Mem) : oR Try.prog [] 60 Try.f5 (.block 0 (q5.blkAt 0)) [(5, (i64 v)), (13, (pt p 0)), (36, (i64 2))] M [ttV 18 (sli b1 0 5 6) M2, ttV 22 (i64 2) M12, ttL 26 (i64 1000), ttS 30 M23] [13] = some (.normal, [some (pt p 0)], M23, [.eq (abuildSlice Try.prog 40 5 [(0, (i64 0)), (1, (i64 1)), (2, (i64 1000)), (3, (i64 1001)), (4, (i64 v))] M) (1, .val (sli b1 0 5 6), M2), qC 25 [(i64 v), (i64 5)] M2 (i64 2) M12, qL 3 b1 2 M12 (i64 1000), qS 3 p 0 (i64 1000) M12 M23]) := by kernel_rfl
theorem s5_2_2 (p : Nat) (N st en v : Int) (sa : Option Addr) (sn sc : Nat) (fa : Option Addr) (fn fc : Nat) {M : Mem} (hM : MemOk M) {M0 : Mem} (X0 : Ext M0 M) (np : M0.next ≤ p) (_ : 1 ≤ N ∧ N ≤ 7) (gp : M.get p = some ⟨[(i64 N), (i64 st), (i64 en), (.slice sa sn sc), (.slice fa fn fc)], 28, 5, 0, true⟩) (cc0 : modI v 5 = 2) : ∃ T1 M', Rd Try.prog [] (.block 0 (q5.blkAt 0)) Try.f5.ntmps (fr [(5, (i64 v)), (13, (pt p 0)), (36, (i64 2))]) M .normal T1 M' ∧ [13].map T1.get = [some (pt p 0)] ∧ Ext M0 M' ∧ MemOk M' ∧ M'.get p = some ⟨[(i64 1000), (i64 st), (i64 en), (.slice sa sn sc), (.slice fa fn fc)], 28, 5, 0, true⟩ ∧ ∀ id k, M.get id = some k → id ≠ p → M'.get id = some k := by
  obtain ⟨b1, M2, eb3, em4, g5, E6, hM7⟩ := new_t hM ⟨[(i64 0), (i64 1), (i64 1000), (i64 1001), (i64 v)], 3, 1, 0, true⟩
  have nb1 : M0.next ≤ b1 := by rw [← eb3]; exact X0.next
  have dpb1 : p ≠ b1 := by have := Mem.lt_of_get gp; omega
  have g8 := E6.old gp
  have X9 := X0.trans E6
  obtain ⟨w10, N11, M12, p13, l14, e15, E16, hM17, Q18, G19⟩ := call_t (P := Try.prog) (GL := []) (f := 25) hM7 (con25 v 5 (by decide))
  have g20 := E16.old g8
  have g21 := E16.old g5
  have ew10 : w10 = i64 2 := by
    have h : i64 (modI v 5) = w10 := Option.some.inj Q18.1
    rw [← h, cc0]
  subst ew10
  have nxM12 : M12.next = M2.next := by rw [← e15]; exact Q18.2
  have X22 := X9.trans E16
  obtain ⟨M23, q24, g25, kp26, X27, hM28, nx29⟩ := store_t (o := 0) (v := (i64 1000)) (new := [(i64 1000), (i64 st), (i64 en), (.slice sa sn sc), (.slice fa fn fc)]) X22 np hM17 dS3 g20 rfl rfl (Nat.zero_le _) (Nat.le_of_ble_eq_true rfl) rfl
  replace g25 : M23.get p = some ⟨[(i64 1000), (i64 st), (i64 en), (.slice sa sn sc), (.slice fa fn fc)], 28, 5, 0, true⟩ := g25
  have g30 := (kp26 _ (Ne.symm dpb1)).trans g21
  have hraw := s5_2_2_raw p N st en v sa sn sc fa fn fc M b1 M2 M12 M23
  have hkp : ∀ id k, M.get id = some k → id ≠ p → M23.get id = some k := fun id k g hp => by
    have g := E6.old g
    have g := E16.old g
    have g := ((fun id h _ => kp26 id h) id hp (Mem.lt_of_get g)).trans g
    exact g
  obtain ⟨T1, h1, h2⟩ := Rd.told noNumP mixedP (fun B => specsB_ok (k := []) (hS5_25 B) (fun p hp => by cases hp)) (fun _ _ => rfl) hraw (hk (q_eq (by rw [← eb3, ← em4]; kernel_rfl) Nat.one_ne_zero) (hk (q_call rfl p13 l14 e15) (hk (lC dC3 g21 rfl) (hk (q_st q24) hn))))
  exact ⟨T1, M23, h1, h2, X27, hM28, g25, hkp⟩
theorem s5_2_3_raw (p : Nat) (_ _ _ v : Int) (_ : Option Addr) (_ _ : Nat) (_ : Option Addr) (_ _ : Nat) (M : Mem) (b1 : Nat) (M2 : Mem) (M12 : Mem) (M23 : Mem) : oR Try.prog [] 60 Try.f5 (.block 0 (q5.blkAt 0)) [(5, (i64 v)), (13, (pt p 0)), (36, (i64 2))] M [ttV 18 (sli b1 0 5 6) M2, ttV 22 (i64 3) M12, ttL 26 (i64 1001), ttS 30 M23] [13] = some (.normal, [some (pt p 0)], M23, [.eq (abuildSlice Try.prog 40 5 [(0, (i64 0)), (1, (i64 1)), (2, (i64 1000)), (3, (i64 1001)), (4, (i64 v))] M) (1, .val (sli b1 0 5 6), M2), qC 25 [(i64 v), (i64 5)] M2 (i64 3) M12, qL 3 b1 3 M12 (i64 1001), qS 3 p 0 (i64 1001) M12 M23]) := by kernel_rfl
theorem s5_2_3 (p : Nat) (N st en v : Int) (sa : Option Addr) (sn sc : Nat) (fa : Option Addr) (fn fc : Nat) {M : Mem} (hM : MemOk M) {M0 : Mem} (X0 : Ext M0 M) (np : M0.next ≤ p) (_ : 1 ≤ N ∧ N ≤ 7) (gp : M.get p = some ⟨[(i64 N), (i64 st), (i64 en), (.slice sa sn sc), (.slice fa fn fc)], 28, 5, 0, true⟩) (cc0 : modI v 5 = 3) : ∃ T1 M', Rd Try.prog [] (.block 0 (q5.blkAt 0)) Try.f5.ntmps (fr [(5, (i64 v)), (13, (pt p 0)), (36, (i64 2))]) M .normal T1 M' ∧ [13].map T1.get = [some (pt p 0)] ∧ Ext M0 M' ∧ MemOk M' ∧ M'.get p = some ⟨[(i64 1001), (i64 st), (i64 en), (.slice sa sn sc), (.slice fa fn fc)], 28, 5, 0, true⟩ ∧ ∀ id k, M.get id = some k → id ≠ p → M'.get id = some k := by
  obtain ⟨b1, M2, eb3, em4, g5, E6, hM7⟩ := new_t hM ⟨[(i64 0), (i64 1), (i64 1000), (i64 1001), (i64 v)], 3, 1, 0, true⟩
  have nb1 : M0.next ≤ b1 := by rw [← eb3]; exact X0.next
  have dpb1 : p ≠ b1 := by have := Mem.lt_of_get gp; omega
  have g8 := E6.old gp
  have X9 := X0.trans E6
  obtain ⟨w10, N11, M12, p13, l14, e15, E16, hM17, Q18, G19⟩ := call_t (P := Try.prog) (GL := []) (f := 25) hM7 (con25 v 5 (by decide))
  have g20 := E16.old g8
  have g21 := E16.old g5
  have ew10 : w10 = i64 3 := by
    have h : i64 (modI v 5) = w10 := Option.some.inj Q18.1
    rw [← h, cc0]
  subst ew10
  have nxM12 : M12.next = M2.next := by rw [← e15]; exact Q18.2
  have X22 := X9.trans E16
  obtain ⟨M23, q24, g25, kp26, X27, hM28, nx29⟩ := store_t (o := 0) (v := (i64 1001)) (new := [(i64 1001), (i64 st), (i64 en), (.slice sa sn sc), (.slice fa fn fc)]) X22 np hM17 dS3 g20 rfl rfl (Nat.zero_le _) (Nat.le_of_ble_eq_true rfl) rfl
  replace g25 : M23.get p = some ⟨[(i64 1001), (i64 st), (i64 en), (.slice sa sn sc), (.slice fa fn fc)], 28, 5, 0, true⟩ := g25
  have g30 := (kp26 _ (Ne.symm dpb1)).trans g21
  have hraw := s5_2_3_raw p N st en v sa sn sc fa fn fc M b1 M2 M12 M23
  have hkp : ∀ id k, M.get id = some k → id ≠ p → M23.get id = some k := fun id k g hp => by
    have g := E6.old g
    have g := E16.old g
    have g := ((fun id h _ => kp26 id h) id hp (Mem.lt_of_get g)).trans g
    exact g
  obtain ⟨T1, h1, h2⟩ := Rd.told noNumP mixedP (fun B => specsB_ok (k := []) (hS5_25 B) (fun p hp => by cases hp)) (fun _ _ => rfl) hraw (hk (q_eq (by rw [← eb3, ← em4]; kernel_rfl) Nat.one_ne_zero) (hk (q_call rfl p13 l14 e15) (hk (lC dC3 g21 rfl) (hk (q_st q24) hn))))
  exact ⟨T1, M23, h1, h2, X27, hM28, g25, hkp⟩
theorem s5_2_4_raw (p : Nat) (_ _ _ v : Int) (_ : Option Addr) (_ _ : Nat) (_ : Option Addr) (_ _ : Nat) (M : Mem) (b1 : Nat) (M2 : Mem) (M12 : Mem) (M23 : Mem) : oR Try.prog [] 60 Try.f5 (.block 0 (q5.blkAt 0)) [(5, (i64 v)), (13, (pt p 0)), (36, (i64 2))] M [ttV 18 (sli b1 0 5 6) M2, ttV 22 (i64 4) M12, ttL 26 (i64 v), ttS 30 M23] [13] = some (.normal, [some (pt p 0)], M23, [.eq (abuildSlice Try.prog 40 5 [(0, (i64 0)), (1, (i64 1)), (2, (i64 1000)), (3, (i64 1001)), (4, (i64 v))] M) (1, .val (sli b1 0 5 6), M2), qC 25 [(i64 v), (i64 5)] M2 (i64 4) M12, qL 3 b1 4 M12 (i64 v), qS 3 p 0 (i64 v) M12 M23]) := by kernel_rfl
theorem s5_2_4 (p : Nat) (N st en v : Int) (sa : Option Addr) (sn sc : Nat) (fa : Option Addr) (fn fc : Nat) {M : Mem} (hM : MemOk M) {M0 : Mem} (X0 : Ext M0 M) (np : M0.next ≤ p) (_ : 1 ≤ N ∧ N ≤ 7) (gp : M.get p = some ⟨[(i64 N), (i64 st), (i64 en), (.slice sa sn sc), (.slice fa fn fc)], 28, 5, 0, true⟩) (cc0 : modI v 5 = 4) : ∃ T1 M', Rd Try.prog [] (.block 0 (q5.blkAt 0)) Try.f5.ntmps (fr [(5, (i64 v)), (13, (pt p 0)), (36, (i64 2))]) M .normal T1 M' ∧ [13].map T1.get = [some (pt p 0)] ∧ Ext M0 M' ∧ MemOk M' ∧ M'.get p = some ⟨[(i64 v), (i64 st), (i64 en), (.slice sa sn sc), (.slice fa fn fc)], 28, 5, 0, true⟩ ∧ ∀ id k, M.get id = some k → id ≠ p → M'.get id = some k := by
  obtain ⟨b1, M2, eb3, em4, g5, E6, hM7⟩ := new_t hM ⟨[(i64 0), (i64 1), (i64 1000), (i64 1001), (i64 v)], 3, 1, 0, true⟩
  have nb1 : M0.next ≤ b1 := by rw [← eb3]; exact X0.next
  have dpb1 : p ≠ b1 := by have := Mem.lt_of_get gp; omega
  have g8 := E6.old gp
  have X9 := X0.trans E6
  obtain ⟨w10, N11, M12, p13, l14, e15, E16, hM17, Q18, G19⟩ := call_t (P := Try.prog) (GL := []) (f := 25) hM7 (con25 v 5 (by decide))
  have g20 := E16.old g8
  have g21 := E16.old g5
  have ew10 : w10 = i64 4 := by
    have h : i64 (modI v 5) = w10 := Option.some.inj Q18.1
    rw [← h, cc0]
  subst ew10
  have nxM12 : M12.next = M2.next := by rw [← e15]; exact Q18.2
  have X22 := X9.trans E16
  obtain ⟨M23, q24, g25, kp26, X27, hM28, nx29⟩ := store_t (o := 0) (v := (i64 v)) (new := [(i64 v), (i64 st), (i64 en), (.slice sa sn sc), (.slice fa fn fc)]) X22 np hM17 dS3 g20 rfl rfl (Nat.zero_le _) (Nat.le_of_ble_eq_true rfl) rfl
  replace g25 : M23.get p = some ⟨[(i64 v), (i64 st), (i64 en), (.slice sa sn sc), (.slice fa fn fc)], 28, 5, 0, true⟩ := g25
  have g30 := (kp26 _ (Ne.symm dpb1)).trans g21
  have hraw := s5_2_4_raw p N st en v sa sn sc fa fn fc M b1 M2 M12 M23
  have hkp : ∀ id k, M.get id = some k → id ≠ p → M23.get id = some k := fun id k g hp => by
    have g := E6.old g
    have g := E16.old g
    have g := ((fun id h _ => kp26 id h) id hp (Mem.lt_of_get g)).trans g
    exact g
  obtain ⟨T1, h1, h2⟩ := Rd.told noNumP mixedP (fun B => specsB_ok (k := []) (hS5_25 B) (fun p hp => by cases hp)) (fun _ _ => rfl) hraw (hk (q_eq (by rw [← eb3, ← em4]; kernel_rfl) Nat.one_ne_zero) (hk (q_call rfl p13 l14 e15) (hk (lC dC3 g21 rfl) (hk (q_st q24) hn))))
  exact ⟨T1, M23, h1, h2, X27, hM28, g25, hkp⟩
theorem s5_3n_raw (p : Nat) (N _ _ v : Int) (_ : Option Addr) (_ _ : Nat) (M : Mem) (M3 : Mem) (b13 : Nat) (M14 : Mem) (b22 : Nat) (M23 : Mem) (M32 : Mem) : oR Try.prog [] 60 Try.f5 (.block 0 (q5.blkAt 0)) [(5, (i64 v)), (13, (pt p 0)), (36, (i64 3))] M [ttL 23 sln, ttL 29 (i64 N), ttV 33 (i64 (modI v (IntKind.wrap .i64 (N + (2 : Int))))) M3, ttV 39 (sli b13 0 1 2) M14, .at 41 (1, .val (sli b22 0 1 1), M23), ttS 45 M32] [13] = some (.normal, [some (pt p 0)], (Mem.mk M32.blks M32.next M.hide M32.log), [qL 25 p 3 M sln, qL 3 p 0 (Mem.mk M.blks M.next (hides 8 [⟨3, 0, M.next, M.next⟩, ⟨2, 0, M.next, M.next⟩, ⟨1, 1, M.next, M.next⟩, ⟨0, 0, M.next, M.next⟩] ++ M.hide) M.log) (i64 N), qC 25 [(i64 v), (i64 (IntKind.wrap .i64 (N + (2 : Int))))] (Mem.mk M.blks M.next (hides 60 [⟨5, 0, M.next, M.next⟩, ⟨4, 1, M.next, M.next⟩, ⟨3, 0, M.next, M.next⟩, ⟨2, 0, M.next, M.next⟩, ⟨1, 1, M.next, M.next⟩, ⟨0, 0, M.next, M.next⟩] ++ M.hide) M.log) (i64 (modI v (IntKind.wrap .i64 (N + (2 : Int))))) M3, .eq (abuildSlice Try.prog 25 1 [(0, (.agg ⟨[(i64 0), (i64 (IntKind.wrap .i64 ((modI v (IntKind.wrap .i64 (N + (2 : Int)))) - (1 : Int)))), (i64 1)]⟩))] (Mem.mk M3.blks M3.next (hides 508 [⟨8, 0, M3.next, M3.next⟩, ⟨7, 0, M3.next, M3.next⟩, ⟨6, 1, M.next, M3.next⟩, ⟨5, 0, M.next, M.next⟩, ⟨4, 1, M.next, M.next⟩, ⟨3, 0, M.next, M.next⟩, ⟨2, 0, M.next, M.next⟩, ⟨1, 1, M.next, M.next⟩, ⟨0, 0, M.next, M.next⟩] ++ M.hide) M3.log)) (1, .val (sli b13 0 1 2), M14), .q (.append [25, 25] sln (sli b13 0 1 2) (Mem.mk M14.blks M14.next M.hide M14.log)) (1, .val (sli b22 0 1 1), M23), qS 25 p 3 (sli b22 0 1 1) (Mem.mk M23.blks M23.next M.hide M23.log) M32]) := by kernel_rfl
theorem s5_3n (p : Nat) (N st en v : Int) (fa : Option Addr) (fn fc : Nat) {M : Mem} (hM : MemOk M) {M0 : Mem} (X0 : Ext M0 M) (np : M0.next ≤ p) (hN : 1 ≤ N ∧ N ≤ 7) (gp : M.get p = some ⟨[(i64 N), (i64 st), (i64 en), sln, (.slice fa fn fc)], 28, 5, 0, true⟩) : ∃ T1 M' b, Rd Try.prog [] (.block 0 (q5.blkAt 0)) Try.f5.ntmps (fr [(5, (i64 v)), (13, (pt p 0)), (36, (i64 3))]) M .normal T1 M' ∧ [13].map T1.get = [some (pt p 0)] ∧ Ext M0 M' ∧ MemOk M' ∧ M'.get p = some ⟨[(i64 N), (i64 st), (i64 en), (sli b 0 1 1), (.slice fa fn fc)], 28, 5, 0, true⟩ ∧ M'.get b = some ⟨[(i64 0), (i64 (IntKind.wrap .i64 ((modI v (IntKind.wrap .i64 (N + (2 : Int)))) - (1 : Int)))), (i64 1)], 48, 3, 0, true⟩ ∧ ∀ id k, M.get id = some k → id ≠ p → M'.get id = some k := by
  have hw2 : 1 ≤ IntKind.wrap .i64 (N + (2 : Int)) ∧ IntKind.wrap .i64 (N + (2 : Int)) ≤ 9 := by rw [wr_small (by omega) (by omega)]; omega
  obtain ⟨w1, N2, M3, p4, l5, e6, E7, hM8, Q9, G10⟩ := call_t (P := Try.prog) (GL := []) (f := 25) hM (con25 v (IntKind.wrap .i64 (N + (2 : Int))) (by simp <;> omega))
  have g11 := E7.old gp
  have ew1 : w1 = (i64 (modI v (IntKind.wrap .i64 (N + (2 : Int))))) := (Option.some.inj Q9.1).symm
  subst ew1
  have nxM3 : M3.next = M.next := by rw [← e6]; exact Q9.2
  have X12 := X0.trans E7
  obtain ⟨b13, M14, eb15, em16, g17, E18, hM19⟩ := new_t hM8 ⟨[(i64 0), (i64 (IntKind.wrap .i64 ((modI v (IntKind.wrap .i64 (N + (2 : Int)))) - (1 : Int)))), (i64 1)], 48, 3, 0, true⟩
  have nb13 : M0.next ≤ b13 := by rw [← eb15]; exact X12.next
  have dpb13 : p ≠ b13 := by have := Mem.lt_of_get g11; omega
  have g20 := E18.old g11
  have X21 := X12.trans E18
  obtain ⟨b22, M23, eb24, em25, g26, E28, hM27⟩ := new_t hM19 ⟨[(i64 0), (i64 (IntKind.wrap .i64 ((modI v (IntKind.wrap .i64 (N + (2 : Int)))) - (1 : Int)))), (i64 1)], 48, 3, 0, true⟩
  have nb22 : M0.next ≤ b22 := by rw [← eb24]; exact X21.next
  have dpb22 : p ≠ b22 := by have := Mem.lt_of_get g20; omega
  have db13b22 : b13 ≠ b22 := by have := Mem.lt_of_get g17; omega
  have g29 := E28.old g20
  have g30 := E28.old g17
  have X31 := X21.trans E28
  obtain ⟨M32, q33, g34, kp35, X36, hM37, nx38⟩ := store_t (o := 3) (v := (sli b22 0 1 1)) (new := [(i64 N), (i64 st), (i64 en), (sli b22 0 1 1), (.slice fa fn fc)]) X31 np hM27 dS25 g29 rfl rfl (Nat.zero_le _) (Nat.le_of_ble_eq_true rfl) rfl
  replace g34 : M32.get p = some ⟨[(i64 N), (i64 st), (i64 en), (sli b22 0 1 1), (.slice fa fn fc)], 28, 5, 0, true⟩ := g34
  have g39 := (kp35 _ (Ne.symm dpb13)).trans g30
  have g40 := (kp35 _ (Ne.symm dpb22)).trans g26
  have hraw := s5_3n_raw p N st en v fa fn fc M M3 b13 M14 b22 M23 M32
  have rw0 : Mem.mk M.blks M.next (hides 0 [⟨1, 1, M.next, M.next⟩, ⟨0, 0, M.next, M.next⟩] ++ M.hide) M.log = M := by rw [show hides 0 [⟨1, 1, M.next, M.next⟩, ⟨0, 0, M.next, M.next⟩] = [] from by simp [hides, Nat.beq_refl, show Nat.beq 1 0 = false from rfl]]; rfl
  have rw1 : Mem.mk M.blks M.next (hides 0 [⟨2, 0, M.next, M.next⟩, ⟨1, 1, M.next, M.next⟩, ⟨0, 0, M.next, M.next⟩] ++ M.hide) M.log = M := by rw [show hides 0 [⟨2, 0, M.next, M.next⟩, ⟨1, 1, M.next, M.next⟩, ⟨0, 0, M.next, M.next⟩] = [] from by simp [hides, Nat.beq_refl, show Nat.beq 1 0 = false from rfl]]; rfl
  have rw2 : Mem.mk M.blks M.next (hides 8 [⟨3, 0, M.next, M.next⟩, ⟨2, 0, M.next, M.next⟩, ⟨1, 1, M.next, M.next⟩, ⟨0, 0, M.next, M.next⟩] ++ M.hide) M.log = M := by rw [show hides 8 [⟨3, 0, M.next, M.next⟩, ⟨2, 0, M.next, M.next⟩, ⟨1, 1, M.next, M.next⟩, ⟨0, 0, M.next, M.next⟩] = [] from by simp [hides, Nat.beq_refl, show Nat.beq 1 0 = false from rfl]]; rfl
  have rw3 : Mem.mk M.blks M.next (hides 24 [⟨4, 1, M.next, M.next⟩, ⟨3, 0, M.next, M.next⟩, ⟨2, 0, M.next, M.next⟩, ⟨1, 1, M.next, M.next⟩, ⟨0, 0, M.next, M.next⟩] ++ M.hide) M.log = M := by rw [show hides 24 [⟨4, 1, M.next, M.next⟩, ⟨3, 0, M.next, M.next⟩, ⟨2, 0, M.next, M.next⟩, ⟨1, 1, M.next, M.next⟩, ⟨0, 0, M.next, M.next⟩] = [] from by simp [hides, Nat.beq_refl, show Nat.beq 1 0 = false from rfl, show Nat.testBit 24 4 = true from rfl]]; rfl
  have rw4 : Mem.mk M.blks M.next (hides 60 [⟨5, 0, M.next, M.next⟩, ⟨4, 1, M.next, M.next⟩, ⟨3, 0, M.next, M.next⟩, ⟨2, 0, M.next, M.next⟩, ⟨1, 1, M.next, M.next⟩, ⟨0, 0, M.next, M.next⟩] ++ M.hide) M.log = M := by rw [show hides 60 [⟨5, 0, M.next, M.next⟩, ⟨4, 1, M.next, M.next⟩, ⟨3, 0, M.next, M.next⟩, ⟨2, 0, M.next, M.next⟩, ⟨1, 1, M.next, M.next⟩, ⟨0, 0, M.next, M.next⟩] = [] from by simp [hides, Nat.beq_refl, show Nat.beq 1 0 = false from rfl, show Nat.testBit 60 4 = true from rfl]]; rfl
  have rw5 : Mem.mk M3.blks M3.next M.hide M3.log = M3 := by rw [(show M.hide = M3.hide from ((X0).hide.trans (X12).hide.symm))]
  have rw6 : Mem.mk M3.blks M3.next (hides 124 [⟨6, 1, M.next, M3.next⟩, ⟨5, 0, M.next, M.next⟩, ⟨4, 1, M.next, M.next⟩, ⟨3, 0, M.next, M.next⟩, ⟨2, 0, M.next, M.next⟩, ⟨1, 1, M.next, M.next⟩, ⟨0, 0, M.next, M.next⟩] ++ M.hide) M3.log = M3 := by rw [show hides 124 [⟨6, 1, M.next, M3.next⟩, ⟨5, 0, M.next, M.next⟩, ⟨4, 1, M.next, M.next⟩, ⟨3, 0, M.next, M.next⟩, ⟨2, 0, M.next, M.next⟩, ⟨1, 1, M.next, M.next⟩, ⟨0, 0, M.next, M.next⟩] = [] from by simp [hides, Nat.beq_refl, nxM3, show Nat.beq 1 0 = false from rfl, show Nat.testBit 124 4 = true from rfl, show Nat.testBit 124 6 = true from rfl], (show M.hide = M3.hide from ((X0).hide.trans (X12).hide.symm))]; rfl
  have rw7 : Mem.mk M3.blks M3.next (hides 252 [⟨7, 0, M3.next, M3.next⟩, ⟨6, 1, M.next, M3.next⟩, ⟨5, 0, M.next, M.next⟩, ⟨4, 1, M.next, M.next⟩, ⟨3, 0, M.next, M.next⟩, ⟨2, 0, M.next, M.next⟩, ⟨1, 1, M.next, M.next⟩, ⟨0, 0, M.next, M.next⟩] ++ M.hide) M3.log = M3 := by rw [show hides 252 [⟨7, 0, M3.next, M3.next⟩, ⟨6, 1, M.next, M3.next⟩, ⟨5, 0, M.next, M.next⟩, ⟨4, 1, M.next, M.next⟩, ⟨3, 0, M.next, M.next⟩, ⟨2, 0, M.next, M.next⟩, ⟨1, 1, M.next, M.next⟩, ⟨0, 0, M.next, M.next⟩] = [] from by simp [hides, Nat.beq_refl, nxM3, show Nat.beq 1 0 = false from rfl, show Nat.testBit 252 4 = true from rfl, show Nat.testBit 252 6 = true from rfl], (show M.hide = M3.hide from ((X0).hide.trans (X12).hide.symm))]; rfl
  have rw8 : Mem.mk M3.blks M3.next (hides 508 [⟨8, 0, M3.next, M3.next⟩, ⟨7, 0, M3.next, M3.next⟩, ⟨6, 1, M.next, M3.next⟩, ⟨5, 0, M.next, M.next⟩, ⟨4, 1, M.next, M.next⟩, ⟨3, 0, M.next, M.next⟩, ⟨2, 0, M.next, M.next⟩, ⟨1, 1, M.next, M.next⟩, ⟨0, 0, M.next, M.next⟩] ++ M.hide) M3.log = M3 := by rw [show hides 508 [⟨8, 0, M3.next, M3.next⟩, ⟨7, 0, M3.next, M3.next⟩, ⟨6, 1, M.next, M3.next⟩, ⟨5, 0, M.next, M.next⟩, ⟨4, 1, M.next, M.next⟩, ⟨3, 0, M.next, M.next⟩, ⟨2, 0, M.next, M.next⟩, ⟨1, 1, M.next, M.next⟩, ⟨0, 0, M.next, M.next⟩] = [] from by simp [hides, Nat.beq_refl, nxM3, show Nat.beq 1 0 = false from rfl, show Nat.testBit 508 4 = true from rfl, show Nat.testBit 508 6 = true from rfl], (show M.hide = M3.hide from ((X0).hide.trans (X12).hide.symm))]; rfl
  have rw9 : Mem.mk M14.blks M14.next M.hide M14.log = M14 := by rw [(show M.hide = M14.hide from ((X0).hide.trans (X21).hide.symm))]
  have rw10 : Mem.mk M23.blks M23.next M.hide M23.log = M23 := by rw [(show M.hide = M23.hide from ((X0).hide.trans (X31).hide.symm))]
  have rw11 : Mem.mk M32.blks M32.next M.hide M32.log = M32 := by rw [(show M.hide = M32.hide from ((X0).hide.trans (X36).hide.symm))]
  try rw [rw0] at hraw
  try rw [rw1] at hraw
  try rw [rw2] at hraw
  try rw [rw3] at hraw
  try rw [rw4] at hraw
  try rw [rw5] at hraw
  try rw [rw6] at hraw
  try rw [rw7] at hraw
  try rw [rw8] at hraw
  try rw [rw9] at hraw
  try rw [rw10] at hraw
  try rw [rw11] at hraw
  have hkp : ∀ id k, M.get id = some k → id ≠ p → M32.get id = some k := fun id k g hp => by
    have g := E7.old g
    have g := E18.old g
    have g := E28.old g
    have g := ((fun id h _ => kp35 id h) id hp (Mem.lt_of_get g)).trans g
    exact g
  obtain ⟨T1, h1, h2⟩ := Rd.told noNumP mixedP (fun B => specsB_ok (k := []) (hS5_25 B) (fun p hp => by cases hp)) (fun _ _ => rfl) hraw (hk (lC dC25 gp rfl) (hk (lC dC3 gp rfl) (hk (q_call rfl p4 l5 e6) (hk (q_eq (by rw [← eb15, ← em16]; kernel_rfl) Nat.one_ne_zero) (hk (q_app (by rw [← eb24, ← em25]; exact append_nil (w := 3) (by kernel_rfl) (by kernel_rfl) (y := 24) (by kernel_rfl) (by decide) (by decide) g17 rfl rfl rfl) Nat.one_ne_zero) (hk (q_st q33) hn))))))
  exact ⟨T1, M32, b22, h1, h2, X36, hM37, g34, g40, hkp⟩
theorem s5_3s_raw (p : Nat) (N _ _ v : Int) (_ : Option Addr) (_ _ : Nat) (bq kq _ : Nat) (_ : List Value) (M : Mem) (M3 : Mem) (b14 : Nat) (M15 : Mem) (b26 : Nat) (M27 : Mem) (M34 : Mem) : oR Try.prog [] 60 Try.f5 (.block 0 (q5.blkAt 0)) [(5, (i64 v)), (13, (pt p 0)), (36, (i64 3))] M [ttL 23 (sli bq 0 kq kq), ttL 29 (i64 N), ttV 33 (i64 (modI v (IntKind.wrap .i64 (N + (2 : Int))))) M3, ttV 39 (sli b14 0 1 2) M15, .at 41 (2, .val (sli b26 0 (kq + 1) (kq + 1)), M27), ttS 45 M34] [13] = some (.normal, [some (pt p 0)], (Mem.mk M34.blks M34.next M.hide M34.log), [qL 25 p 3 M (sli bq 0 kq kq), qL 3 p 0 (Mem.mk M.blks M.next (hides 8 [⟨3, 0, M.next, M.next⟩, ⟨2, 0, M.next, M.next⟩, ⟨1, 1, M.next, M.next⟩, ⟨0, 0, M.next, M.next⟩] ++ M.hide) M.log) (i64 N), qC 25 [(i64 v), (i64 (IntKind.wrap .i64 (N + (2 : Int))))] (Mem.mk M.blks M.next (hides 60 [⟨5, 0, M.next, M.next⟩, ⟨4, 1, M.next, M.next⟩, ⟨3, 0, M.next, M.next⟩, ⟨2, 0, M.next, M.next⟩, ⟨1, 1, M.next, M.next⟩, ⟨0, 0, M.next, M.next⟩] ++ M.hide) M.log) (i64 (modI v (IntKind.wrap .i64 (N + (2 : Int))))) M3, .eq (abuildSlice Try.prog 25 1 [(0, (.agg ⟨[(i64 0), (i64 (IntKind.wrap .i64 ((modI v (IntKind.wrap .i64 (N + (2 : Int)))) - (1 : Int)))), (i64 1)]⟩))] (Mem.mk M3.blks M3.next (hides 508 [⟨8, 0, M3.next, M3.next⟩, ⟨7, 0, M3.next, M3.next⟩, ⟨6, 1, M.next, M3.next⟩, ⟨5, 0, M.next, M.next⟩, ⟨4, 1, M.next, M.next⟩, ⟨3, 0, M.next, M.next⟩, ⟨2, 0, M.next, M.next⟩, ⟨1, 1, M.next, M.next⟩, ⟨0, 0, M.next, M.next⟩] ++ M.hide) M3.log)) (1, .val (sli b14 0 1 2), M15), .q (.append [25, 25] (sli bq 0 kq kq) (sli b14 0 1 2) (Mem.mk M15.blks M15.next M.hide M15.log)) (2, .val (sli b26 0 (kq + 1) (kq + 1)), M27), qS 25 p 3 (sli b26 0 (kq + 1) (kq + 1)) (Mem.mk M27.blks M27.next M.hide M27.log) M34]) := by kernel_rfl
theorem s5_3s (p : Nat) (N st en v : Int) (fa : Option Addr) (fn fc : Nat) (bq kq wq : Nat) (cq : List Value) {M : Mem} (hM : MemOk M) {M0 : Mem} (X0 : Ext M0 M) (np : M0.next ≤ p) (hN : 1 ≤ N ∧ N ≤ 7) (gp : M.get p = some ⟨[(i64 N), (i64 st), (i64 en), (sli bq 0 kq kq), (.slice fa fn fc)], 28, 5, 0, true⟩) (nbq : M0.next ≤ bq) (gq : M.get bq = some ⟨cq, 48, 3, wq, true⟩) (dpbq : p ≠ bq) (hkq : kq < 1073741824) (hkq0 : 0 < kq) (hcq : cq.length = kq * 3) (hwq : wq ≤ kq * 3) : ∃ T1 M' b, Rd Try.prog [] (.block 0 (q5.blkAt 0)) Try.f5.ntmps (fr [(5, (i64 v)), (13, (pt p 0)), (36, (i64 3))]) M .normal T1 M' ∧ [13].map T1.get = [some (pt p 0)] ∧ Ext M0 M' ∧ MemOk M' ∧ M'.get p = some ⟨[(i64 N), (i64 st), (i64 en), (sli b 0 (kq + 1) (kq + 1)), (.slice fa fn fc)], 28, 5, 0, true⟩ ∧ M'.get b = some ⟨cq ++ [(i64 0), (i64 (IntKind.wrap .i64 ((modI v (IntKind.wrap .i64 (N + (2 : Int)))) - (1 : Int)))), (i64 1)], 48, 3, kq * 3, true⟩ ∧ ∀ id k, M.get id = some k → id ≠ p → id ≠ bq → M'.get id = some k := by
  have hw2 : 1 ≤ IntKind.wrap .i64 (N + (2 : Int)) ∧ IntKind.wrap .i64 (N + (2 : Int)) ≤ 9 := by rw [wr_small (by omega) (by omega)]; omega
  obtain ⟨w1, N2, M3, p4, l5, e6, E7, hM8, Q9, G10⟩ := call_t (P := Try.prog) (GL := []) (f := 25) hM (con25 v (IntKind.wrap .i64 (N + (2 : Int))) (by simp <;> omega))
  have g11 := E7.old gp
  have g12 := E7.old gq
  have ew1 : w1 = (i64 (modI v (IntKind.wrap .i64 (N + (2 : Int))))) := (Option.some.inj Q9.1).symm
  subst ew1
  have nxM3 : M3.next = M.next := by rw [← e6]; exact Q9.2
  have X13 := X0.trans E7
  obtain ⟨b14, M15, eb16, em17, g18, E19, hM20⟩ := new_t hM8 ⟨[(i64 0), (i64 (IntKind.wrap .i64 ((modI v (IntKind.wrap .i64 (N + (2 : Int)))) - (1 : Int)))), (i64 1)], 48, 3, 0, true⟩
  have nb14 : M0.next ≤ b14 := by rw [← eb16]; exact X13.next
  have dpb14 : p ≠ b14 := by have := Mem.lt_of_get g11; omega
  have dbqb14 : bq ≠ b14 := by have := Mem.lt_of_get g12; omega
  have g21 := E19.old g11
  have g22 := E19.old g12
  have X23 := X13.trans E19
  obtain ⟨b26, M27, eb28, em29, g30, X25, hM31, kp24⟩ := keep_t X23 nbq hM20 ⟨cq, 48, 3, kq * 3, false⟩ ⟨cq ++ [(i64 0), (i64 (IntKind.wrap .i64 ((modI v (IntKind.wrap .i64 (N + (2 : Int)))) - (1 : Int)))), (i64 1)], 48, 3, kq * 3, true⟩
  have nb26 : M0.next ≤ b26 := by rw [← eb28]; exact X23.next
  have dpb26 : p ≠ b26 := by have := Mem.lt_of_get g21; omega
  have dbqb26 : bq ≠ b26 := by have := Mem.lt_of_get g22; omega
  have db14b26 : b14 ≠ b26 := by have := Mem.lt_of_get g18; omega
  have g32 := (kp24 _ dpbq (Mem.lt_of_get g21)).trans g21
  have g33 := (kp24 _ (Ne.symm dbqb14) (Mem.lt_of_get g18)).trans g18
  obtain ⟨M34, q35, g36, kp37, X38, hM39, nx40⟩ := store_t (o := 3) (v := (sli b26 0 (kq + 1) (kq + 1))) (new := [(i64 N), (i64 st), (i64 en), (sli b26 0 (kq + 1) (kq + 1)), (.slice fa fn fc)]) X25 np hM31 dS25 g32 rfl rfl (Nat.zero_le _) (Nat.le_of_ble_eq_true rfl) rfl
  replace g36 : M34.get p = some ⟨[(i64 N), (i64 st), (i64 en), (sli b26 0 (kq + 1) (kq + 1)), (.slice fa fn fc)], 28, 5, 0, true⟩ := g36
  have g41 := (kp37 _ (Ne.symm dpb14)).trans g33
  have g42 := (kp37 _ (Ne.symm dpb26)).trans g30
  have hraw := s5_3s_raw p N st en v fa fn fc bq kq wq cq M M3 b14 M15 b26 M27 M34
  have rw0 : Mem.mk M.blks M.next (hides 0 [⟨1, 1, M.next, M.next⟩, ⟨0, 0, M.next, M.next⟩] ++ M.hide) M.log = M := by rw [show hides 0 [⟨1, 1, M.next, M.next⟩, ⟨0, 0, M.next, M.next⟩] = [] from by simp [hides, Nat.beq_refl, show Nat.beq 1 0 = false from rfl]]; rfl
  have rw1 : Mem.mk M.blks M.next (hides 0 [⟨2, 0, M.next, M.next⟩, ⟨1, 1, M.next, M.next⟩, ⟨0, 0, M.next, M.next⟩] ++ M.hide) M.log = M := by rw [show hides 0 [⟨2, 0, M.next, M.next⟩, ⟨1, 1, M.next, M.next⟩, ⟨0, 0, M.next, M.next⟩] = [] from by simp [hides, Nat.beq_refl, show Nat.beq 1 0 = false from rfl]]; rfl
  have rw2 : Mem.mk M.blks M.next (hides 8 [⟨3, 0, M.next, M.next⟩, ⟨2, 0, M.next, M.next⟩, ⟨1, 1, M.next, M.next⟩, ⟨0, 0, M.next, M.next⟩] ++ M.hide) M.log = M := by rw [show hides 8 [⟨3, 0, M.next, M.next⟩, ⟨2, 0, M.next, M.next⟩, ⟨1, 1, M.next, M.next⟩, ⟨0, 0, M.next, M.next⟩] = [] from by simp [hides, Nat.beq_refl, show Nat.beq 1 0 = false from rfl]]; rfl
  have rw3 : Mem.mk M.blks M.next (hides 24 [⟨4, 1, M.next, M.next⟩, ⟨3, 0, M.next, M.next⟩, ⟨2, 0, M.next, M.next⟩, ⟨1, 1, M.next, M.next⟩, ⟨0, 0, M.next, M.next⟩] ++ M.hide) M.log = M := by rw [show hides 24 [⟨4, 1, M.next, M.next⟩, ⟨3, 0, M.next, M.next⟩, ⟨2, 0, M.next, M.next⟩, ⟨1, 1, M.next, M.next⟩, ⟨0, 0, M.next, M.next⟩] = [] from by simp [hides, Nat.beq_refl, show Nat.beq 1 0 = false from rfl, show Nat.testBit 24 4 = true from rfl]]; rfl
  have rw4 : Mem.mk M.blks M.next (hides 60 [⟨5, 0, M.next, M.next⟩, ⟨4, 1, M.next, M.next⟩, ⟨3, 0, M.next, M.next⟩, ⟨2, 0, M.next, M.next⟩, ⟨1, 1, M.next, M.next⟩, ⟨0, 0, M.next, M.next⟩] ++ M.hide) M.log = M := by rw [show hides 60 [⟨5, 0, M.next, M.next⟩, ⟨4, 1, M.next, M.next⟩, ⟨3, 0, M.next, M.next⟩, ⟨2, 0, M.next, M.next⟩, ⟨1, 1, M.next, M.next⟩, ⟨0, 0, M.next, M.next⟩] = [] from by simp [hides, Nat.beq_refl, show Nat.beq 1 0 = false from rfl, show Nat.testBit 60 4 = true from rfl]]; rfl
  have rw5 : Mem.mk M3.blks M3.next M.hide M3.log = M3 := by rw [(show M.hide = M3.hide from ((X0).hide.trans (X13).hide.symm))]
  have rw6 : Mem.mk M3.blks M3.next (hides 124 [⟨6, 1, M.next, M3.next⟩, ⟨5, 0, M.next, M.next⟩, ⟨4, 1, M.next, M.next⟩, ⟨3, 0, M.next, M.next⟩, ⟨2, 0, M.next, M.next⟩, ⟨1, 1, M.next, M.next⟩, ⟨0, 0, M.next, M.next⟩] ++ M.hide) M3.log = M3 := by rw [show hides 124 [⟨6, 1, M.next, M3.next⟩, ⟨5, 0, M.next, M.next⟩, ⟨4, 1, M.next, M.next⟩, ⟨3, 0, M.next, M.next⟩, ⟨2, 0, M.next, M.next⟩, ⟨1, 1, M.next, M.next⟩, ⟨0, 0, M.next, M.next⟩] = [] from by simp [hides, Nat.beq_refl, nxM3, show Nat.beq 1 0 = false from rfl, show Nat.testBit 124 4 = true from rfl, show Nat.testBit 124 6 = true from rfl], (show M.hide = M3.hide from ((X0).hide.trans (X13).hide.symm))]; rfl
  have rw7 : Mem.mk M3.blks M3.next (hides 252 [⟨7, 0, M3.next, M3.next⟩, ⟨6, 1, M.next, M3.next⟩, ⟨5, 0, M.next, M.next⟩, ⟨4, 1, M.next, M.next⟩, ⟨3, 0, M.next, M.next⟩, ⟨2, 0, M.next, M.next⟩, ⟨1, 1, M.next, M.next⟩, ⟨0, 0, M.next, M.next⟩] ++ M.hide) M3.log = M3 := by rw [show hides 252 [⟨7, 0, M3.next, M3.next⟩, ⟨6, 1, M.next, M3.next⟩, ⟨5, 0, M.next, M.next⟩, ⟨4, 1, M.next, M.next⟩, ⟨3, 0, M.next, M.next⟩, ⟨2, 0, M.next, M.next⟩, ⟨1, 1, M.next, M.next⟩, ⟨0, 0, M.next, M.next⟩] = [] from by simp [hides, Nat.beq_refl, nxM3, show Nat.beq 1 0 = false from rfl, show Nat.testBit 252 4 = true from rfl, show Nat.testBit 252 6 = true from rfl], (show M.hide = M3.hide from ((X0).hide.trans (X13).hide.symm))]; rfl
  have rw8 : Mem.mk M3.blks M3.next (hides 508 [⟨8, 0, M3.next, M3.next⟩, ⟨7, 0, M3.next, M3.next⟩, ⟨6, 1, M.next, M3.next⟩, ⟨5, 0, M.next, M.next⟩, ⟨4, 1, M.next, M.next⟩, ⟨3, 0, M.next, M.next⟩, ⟨2, 0, M.next, M.next⟩, ⟨1, 1, M.next, M.next⟩, ⟨0, 0, M.next, M.next⟩] ++ M.hide) M3.log = M3 := by rw [show hides 508 [⟨8, 0, M3.next, M3.next⟩, ⟨7, 0, M3.next, M3.next⟩, ⟨6, 1, M.next, M3.next⟩, ⟨5, 0, M.next, M.next⟩, ⟨4, 1, M.next, M.next⟩, ⟨3, 0, M.next, M.next⟩, ⟨2, 0, M.next, M.next⟩, ⟨1, 1, M.next, M.next⟩, ⟨0, 0, M.next, M.next⟩] = [] from by simp [hides, Nat.beq_refl, nxM3, show Nat.beq 1 0 = false from rfl, show Nat.testBit 508 4 = true from rfl, show Nat.testBit 508 6 = true from rfl], (show M.hide = M3.hide from ((X0).hide.trans (X13).hide.symm))]; rfl
  have rw9 : Mem.mk M15.blks M15.next M.hide M15.log = M15 := by rw [(show M.hide = M15.hide from ((X0).hide.trans (X23).hide.symm))]
  have rw10 : Mem.mk M27.blks M27.next M.hide M27.log = M27 := by rw [(show M.hide = M27.hide from ((X0).hide.trans (X25).hide.symm))]
  have rw11 : Mem.mk M34.blks M34.next M.hide M34.log = M34 := by rw [(show M.hide = M34.hide from ((X0).hide.trans (X38).hide.symm))]
  try rw [rw0] at hraw
  try rw [rw1] at hraw
  try rw [rw2] at hraw
  try rw [rw3] at hraw
  try rw [rw4] at hraw
  try rw [rw5] at hraw
  try rw [rw6] at hraw
  try rw [rw7] at hraw
  try rw [rw8] at hraw
  try rw [rw9] at hraw
  try rw [rw10] at hraw
  try rw [rw11] at hraw
  have hkp : ∀ id k, M.get id = some k → id ≠ p → id ≠ bq → M34.get id = some k := fun id k g hp hq => by
    have g := E7.old g
    have g := E19.old g
    have g := (kp24 id hq (Mem.lt_of_get g)).trans g
    have g := ((fun id h _ => kp37 id h) id hp (Mem.lt_of_get g)).trans g
    exact g
  obtain ⟨T1, h1, h2⟩ := Rd.told noNumP mixedP (fun B => specsB_ok (k := []) (hS5_25 B) (fun p hp => by cases hp)) (fun _ _ => rfl) hraw (hk (lC dC25 gp rfl) (hk (lC dC3 gp rfl) (hk (q_call rfl p4 l5 e6) (hk (q_eq (by rw [← eb16, ← em17]; kernel_rfl) Nat.one_ne_zero) (hk (q_app (by rw [← eb28, ← em29]; exact append_keep (w := 3) (y := 24) (by kernel_rfl) (by kernel_rfl) (by kernel_rfl) (by kernel_rfl) (by decide) (by decide) hkq hkq0 g18 rfl rfl rfl g22 hcq hwq) (Nat.succ_ne_zero _)) (hk (q_st q35) hn))))))
  exact ⟨T1, M34, b26, h1, h2, X38, hM39, g36, g42, hkp⟩
theorem s5_4n_raw (p : Nat) (_ _ _ v : Int) (_ : Option Addr) (_ _ : Nat) (M : Mem) (M3 : Mem) (b13 : Nat) (M14 : Mem) (b22 : Nat) (M23 : Mem) (M32 : Mem) : oR Try.prog [] 60 Try.f5 (.block 0 (q5.blkAt 0)) [(5, (i64 v)), (13, (pt p 0)), (36, (i64 4))] M [ttL 28 sln, ttV 32 (i64 (modI v 35)) M3, ttV 38 (sli b13 0 1 2) M14, .at 40 (1, .val (sli b22 0 1 1), M23), ttS 44 M32] [13] = some (.normal, [some (pt p 0)], (Mem.mk M32.blks M32.next M.hide M32.log), [qL 25 p 3 M sln, qC 25 [(i64 v), (i64 35)] (Mem.mk M.blks M.next (hides 4 [⟨2, 0, M.next, M.next⟩, ⟨1, 1, M.next, M.next⟩, ⟨0, 0, M.next, M.next⟩] ++ M.hide) M.log) (i64 (modI v 35)) M3, .eq (abuildSlice Try.prog 25 1 [(0, (.agg ⟨[(i64 0), (i64 0), (i64 (IntKind.wrap .i64 ((modI v 35) - (1 : Int))))]⟩))] (Mem.mk M3.blks M3.next (hides 60 [⟨5, 0, M3.next, M3.next⟩, ⟨4, 0, M3.next, M3.next⟩, ⟨3, 1, M.next, M3.next⟩, ⟨2, 0, M.next, M.next⟩, ⟨1, 1, M.next, M.next⟩, ⟨0, 0, M.next, M.next⟩] ++ M.hide) M3.log)) (1, .val (sli b13 0 1 2), M14), .q (.append [25, 25] sln (sli b13 0 1 2) (Mem.mk M14.blks M14.next M.hide M14.log)) (1, .val (sli b22 0 1 1), M23), qS 25 p 3 (sli b22 0 1 1) (Mem.mk M23.blks M23.next M.hide M23.log) M32]) := by kernel_rfl
theorem s5_4n (p : Nat) (N st en v : Int) (fa : Option Addr) (fn fc : Nat) {M : Mem} (hM : MemOk M) {M0 : Mem} (X0 : Ext M0 M) (np : M0.next ≤ p) (_ : 1 ≤ N ∧ N ≤ 7) (gp : M.get p = some ⟨[(i64 N), (i64 st), (i64 en), sln, (.slice fa fn fc)], 28, 5, 0, true⟩) : ∃ T1 M' b, Rd Try.prog [] (.block 0 (q5.blkAt 0)) Try.f5.ntmps (fr [(5, (i64 v)), (13, (pt p 0)), (36, (i64 4))]) M .normal T1 M' ∧ [13].map T1.get = [some (pt p 0)] ∧ Ext M0 M' ∧ MemOk M' ∧ M'.get p = some ⟨[(i64 N), (i64 st), (i64 en), (sli b 0 1 1), (.slice fa fn fc)], 28, 5, 0, true⟩ ∧ M'.get b = some ⟨[(i64 0), (i64 0), (i64 (IntKind.wrap .i64 ((modI v 35) - (1 : Int))))], 48, 3, 0, true⟩ ∧ ∀ id k, M.get id = some k → id ≠ p → M'.get id = some k := by
  obtain ⟨w1, N2, M3, p4, l5, e6, E7, hM8, Q9, G10⟩ := call_t (P := Try.prog) (GL := []) (f := 25) hM (con25 v 35 (by decide))
  have g11 := E7.old gp
  have ew1 : w1 = (i64 (modI v 35)) := (Option.some.inj Q9.1).symm
  subst ew1
  have nxM3 : M3.next = M.next := by rw [← e6]; exact Q9.2
  have X12 := X0.trans E7
  obtain ⟨b13, M14, eb15, em16, g17, E18, hM19⟩ := new_t hM8 ⟨[(i64 0), (i64 0), (i64 (IntKind.wrap .i64 ((modI v 35) - (1 : Int))))], 48, 3, 0, true⟩
  have nb13 : M0.next ≤ b13 := by rw [← eb15]; exact X12.next
  have dpb13 : p ≠ b13 := by have := Mem.lt_of_get g11; omega
  have g20 := E18.old g11
  have X21 := X12.trans E18
  obtain ⟨b22, M23, eb24, em25, g26, E28, hM27⟩ := new_t hM19 ⟨[(i64 0), (i64 0), (i64 (IntKind.wrap .i64 ((modI v 35) - (1 : Int))))], 48, 3, 0, true⟩
  have nb22 : M0.next ≤ b22 := by rw [← eb24]; exact X21.next
  have dpb22 : p ≠ b22 := by have := Mem.lt_of_get g20; omega
  have db13b22 : b13 ≠ b22 := by have := Mem.lt_of_get g17; omega
  have g29 := E28.old g20
  have g30 := E28.old g17
  have X31 := X21.trans E28
  obtain ⟨M32, q33, g34, kp35, X36, hM37, nx38⟩ := store_t (o := 3) (v := (sli b22 0 1 1)) (new := [(i64 N), (i64 st), (i64 en), (sli b22 0 1 1), (.slice fa fn fc)]) X31 np hM27 dS25 g29 rfl rfl (Nat.zero_le _) (Nat.le_of_ble_eq_true rfl) rfl
  replace g34 : M32.get p = some ⟨[(i64 N), (i64 st), (i64 en), (sli b22 0 1 1), (.slice fa fn fc)], 28, 5, 0, true⟩ := g34
  have g39 := (kp35 _ (Ne.symm dpb13)).trans g30
  have g40 := (kp35 _ (Ne.symm dpb22)).trans g26
  have hraw := s5_4n_raw p N st en v fa fn fc M M3 b13 M14 b22 M23 M32
  have rw0 : Mem.mk M.blks M.next (hides 0 [⟨1, 1, M.next, M.next⟩, ⟨0, 0, M.next, M.next⟩] ++ M.hide) M.log = M := by rw [show hides 0 [⟨1, 1, M.next, M.next⟩, ⟨0, 0, M.next, M.next⟩] = [] from by simp [hides, Nat.beq_refl, show Nat.beq 1 0 = false from rfl]]; rfl
  have rw1 : Mem.mk M.blks M.next (hides 4 [⟨2, 0, M.next, M.next⟩, ⟨1, 1, M.next, M.next⟩, ⟨0, 0, M.next, M.next⟩] ++ M.hide) M.log = M := by rw [show hides 4 [⟨2, 0, M.next, M.next⟩, ⟨1, 1, M.next, M.next⟩, ⟨0, 0, M.next, M.next⟩] = [] from by simp [hides, Nat.beq_refl, show Nat.beq 1 0 = false from rfl]]; rfl
  have rw2 : Mem.mk M3.blks M3.next M.hide M3.log = M3 := by rw [(show M.hide = M3.hide from ((X0).hide.trans (X12).hide.symm))]
  have rw3 : Mem.mk M3.blks M3.next (hides 12 [⟨3, 1, M.next, M3.next⟩, ⟨2, 0, M.next, M.next⟩, ⟨1, 1, M.next, M.next⟩, ⟨0, 0, M.next, M.next⟩] ++ M.hide) M3.log = M3 := by rw [show hides 12 [⟨3, 1, M.next, M3.next⟩, ⟨2, 0, M.next, M.next⟩, ⟨1, 1, M.next, M.next⟩, ⟨0, 0, M.next, M.next⟩] = [] from by simp [hides, Nat.beq_refl, nxM3, show Nat.beq 1 0 = false from rfl, show Nat.testBit 12 3 = true from rfl], (show M.hide = M3.hide from ((X0).hide.trans (X12).hide.symm))]; rfl
  have rw4 : Mem.mk M3.blks M3.next (hides 28 [⟨4, 0, M3.next, M3.next⟩, ⟨3, 1, M.next, M3.next⟩, ⟨2, 0, M.next, M.next⟩, ⟨1, 1, M.next, M.next⟩, ⟨0, 0, M.next, M.next⟩] ++ M.hide) M3.log = M3 := by rw [show hides 28 [⟨4, 0, M3.next, M3.next⟩, ⟨3, 1, M.next, M3.next⟩, ⟨2, 0, M.next, M.next⟩, ⟨1, 1, M.next, M.next⟩, ⟨0, 0, M.next, M.next⟩] = [] from by simp [hides, Nat.beq_refl, nxM3, show Nat.beq 1 0 = false from rfl, show Nat.testBit 28 3 = true from rfl], (show M.hide = M3.hide from ((X0).hide.trans (X12).hide.symm))]; rfl
  have rw5 : Mem.mk M3.blks M3.next (hides 60 [⟨5, 0, M3.next, M3.next⟩, ⟨4, 0, M3.next, M3.next⟩, ⟨3, 1, M.next, M3.next⟩, ⟨2, 0, M.next, M.next⟩, ⟨1, 1, M.next, M.next⟩, ⟨0, 0, M.next, M.next⟩] ++ M.hide) M3.log = M3 := by rw [show hides 60 [⟨5, 0, M3.next, M3.next⟩, ⟨4, 0, M3.next, M3.next⟩, ⟨3, 1, M.next, M3.next⟩, ⟨2, 0, M.next, M.next⟩, ⟨1, 1, M.next, M.next⟩, ⟨0, 0, M.next, M.next⟩] = [] from by simp [hides, Nat.beq_refl, nxM3, show Nat.beq 1 0 = false from rfl, show Nat.testBit 60 3 = true from rfl], (show M.hide = M3.hide from ((X0).hide.trans (X12).hide.symm))]; rfl
  have rw6 : Mem.mk M14.blks M14.next M.hide M14.log = M14 := by rw [(show M.hide = M14.hide from ((X0).hide.trans (X21).hide.symm))]
  have rw7 : Mem.mk M23.blks M23.next M.hide M23.log = M23 := by rw [(show M.hide = M23.hide from ((X0).hide.trans (X31).hide.symm))]
  have rw8 : Mem.mk M32.blks M32.next M.hide M32.log = M32 := by rw [(show M.hide = M32.hide from ((X0).hide.trans (X36).hide.symm))]
  try rw [rw0] at hraw
  try rw [rw1] at hraw
  try rw [rw2] at hraw
  try rw [rw3] at hraw
  try rw [rw4] at hraw
  try rw [rw5] at hraw
  try rw [rw6] at hraw
  try rw [rw7] at hraw
  try rw [rw8] at hraw
  have hkp : ∀ id k, M.get id = some k → id ≠ p → M32.get id = some k := fun id k g hp => by
    have g := E7.old g
    have g := E18.old g
    have g := E28.old g
    have g := ((fun id h _ => kp35 id h) id hp (Mem.lt_of_get g)).trans g
    exact g
  obtain ⟨T1, h1, h2⟩ := Rd.told noNumP mixedP (fun B => specsB_ok (k := []) (hS5_25 B) (fun p hp => by cases hp)) (fun _ _ => rfl) hraw (hk (lC dC25 gp rfl) (hk (q_call rfl p4 l5 e6) (hk (q_eq (by rw [← eb15, ← em16]; kernel_rfl) Nat.one_ne_zero) (hk (q_app (by rw [← eb24, ← em25]; exact append_nil (w := 3) (by kernel_rfl) (by kernel_rfl) (y := 24) (by kernel_rfl) (by decide) (by decide) g17 rfl rfl rfl) Nat.one_ne_zero) (hk (q_st q33) hn)))))
  exact ⟨T1, M32, b22, h1, h2, X36, hM37, g34, g40, hkp⟩
theorem s5_4s_raw (p : Nat) (_ _ _ v : Int) (_ : Option Addr) (_ _ : Nat) (bq kq _ : Nat) (_ : List Value) (M : Mem) (M3 : Mem) (b14 : Nat) (M15 : Mem) (b26 : Nat) (M27 : Mem) (M34 : Mem) : oR Try.prog [] 60 Try.f5 (.block 0 (q5.blkAt 0)) [(5, (i64 v)), (13, (pt p 0)), (36, (i64 4))] M [ttL 28 (sli bq 0 kq kq), ttV 32 (i64 (modI v 35)) M3, ttV 38 (sli b14 0 1 2) M15, .at 40 (2, .val (sli b26 0 (kq + 1) (kq + 1)), M27), ttS 44 M34] [13] = some (.normal, [some (pt p 0)], (Mem.mk M34.blks M34.next M.hide M34.log), [qL 25 p 3 M (sli bq 0 kq kq), qC 25 [(i64 v), (i64 35)] (Mem.mk M.blks M.next (hides 4 [⟨2, 0, M.next, M.next⟩, ⟨1, 1, M.next, M.next⟩, ⟨0, 0, M.next, M.next⟩] ++ M.hide) M.log) (i64 (modI v 35)) M3, .eq (abuildSlice Try.prog 25 1 [(0, (.agg ⟨[(i64 0), (i64 0), (i64 (IntKind.wrap .i64 ((modI v 35) - (1 : Int))))]⟩))] (Mem.mk M3.blks M3.next (hides 60 [⟨5, 0, M3.next, M3.next⟩, ⟨4, 0, M3.next, M3.next⟩, ⟨3, 1, M.next, M3.next⟩, ⟨2, 0, M.next, M.next⟩, ⟨1, 1, M.next, M.next⟩, ⟨0, 0, M.next, M.next⟩] ++ M.hide) M3.log)) (1, .val (sli b14 0 1 2), M15), .q (.append [25, 25] (sli bq 0 kq kq) (sli b14 0 1 2) (Mem.mk M15.blks M15.next M.hide M15.log)) (2, .val (sli b26 0 (kq + 1) (kq + 1)), M27), qS 25 p 3 (sli b26 0 (kq + 1) (kq + 1)) (Mem.mk M27.blks M27.next M.hide M27.log) M34]) := by kernel_rfl
theorem s5_4s (p : Nat) (N st en v : Int) (fa : Option Addr) (fn fc : Nat) (bq kq wq : Nat) (cq : List Value) {M : Mem} (hM : MemOk M) {M0 : Mem} (X0 : Ext M0 M) (np : M0.next ≤ p) (_ : 1 ≤ N ∧ N ≤ 7) (gp : M.get p = some ⟨[(i64 N), (i64 st), (i64 en), (sli bq 0 kq kq), (.slice fa fn fc)], 28, 5, 0, true⟩) (nbq : M0.next ≤ bq) (gq : M.get bq = some ⟨cq, 48, 3, wq, true⟩) (dpbq : p ≠ bq) (hkq : kq < 1073741824) (hkq0 : 0 < kq) (hcq : cq.length = kq * 3) (hwq : wq ≤ kq * 3) : ∃ T1 M' b, Rd Try.prog [] (.block 0 (q5.blkAt 0)) Try.f5.ntmps (fr [(5, (i64 v)), (13, (pt p 0)), (36, (i64 4))]) M .normal T1 M' ∧ [13].map T1.get = [some (pt p 0)] ∧ Ext M0 M' ∧ MemOk M' ∧ M'.get p = some ⟨[(i64 N), (i64 st), (i64 en), (sli b 0 (kq + 1) (kq + 1)), (.slice fa fn fc)], 28, 5, 0, true⟩ ∧ M'.get b = some ⟨cq ++ [(i64 0), (i64 0), (i64 (IntKind.wrap .i64 ((modI v 35) - (1 : Int))))], 48, 3, kq * 3, true⟩ ∧ ∀ id k, M.get id = some k → id ≠ p → id ≠ bq → M'.get id = some k := by
  obtain ⟨w1, N2, M3, p4, l5, e6, E7, hM8, Q9, G10⟩ := call_t (P := Try.prog) (GL := []) (f := 25) hM (con25 v 35 (by decide))
  have g11 := E7.old gp
  have g12 := E7.old gq
  have ew1 : w1 = (i64 (modI v 35)) := (Option.some.inj Q9.1).symm
  subst ew1
  have nxM3 : M3.next = M.next := by rw [← e6]; exact Q9.2
  have X13 := X0.trans E7
  obtain ⟨b14, M15, eb16, em17, g18, E19, hM20⟩ := new_t hM8 ⟨[(i64 0), (i64 0), (i64 (IntKind.wrap .i64 ((modI v 35) - (1 : Int))))], 48, 3, 0, true⟩
  have nb14 : M0.next ≤ b14 := by rw [← eb16]; exact X13.next
  have dpb14 : p ≠ b14 := by have := Mem.lt_of_get g11; omega
  have dbqb14 : bq ≠ b14 := by have := Mem.lt_of_get g12; omega
  have g21 := E19.old g11
  have g22 := E19.old g12
  have X23 := X13.trans E19
  obtain ⟨b26, M27, eb28, em29, g30, X25, hM31, kp24⟩ := keep_t X23 nbq hM20 ⟨cq, 48, 3, kq * 3, false⟩ ⟨cq ++ [(i64 0), (i64 0), (i64 (IntKind.wrap .i64 ((modI v 35) - (1 : Int))))], 48, 3, kq * 3, true⟩
  have nb26 : M0.next ≤ b26 := by rw [← eb28]; exact X23.next
  have dpb26 : p ≠ b26 := by have := Mem.lt_of_get g21; omega
  have dbqb26 : bq ≠ b26 := by have := Mem.lt_of_get g22; omega
  have db14b26 : b14 ≠ b26 := by have := Mem.lt_of_get g18; omega
  have g32 := (kp24 _ dpbq (Mem.lt_of_get g21)).trans g21
  have g33 := (kp24 _ (Ne.symm dbqb14) (Mem.lt_of_get g18)).trans g18
  obtain ⟨M34, q35, g36, kp37, X38, hM39, nx40⟩ := store_t (o := 3) (v := (sli b26 0 (kq + 1) (kq + 1))) (new := [(i64 N), (i64 st), (i64 en), (sli b26 0 (kq + 1) (kq + 1)), (.slice fa fn fc)]) X25 np hM31 dS25 g32 rfl rfl (Nat.zero_le _) (Nat.le_of_ble_eq_true rfl) rfl
  replace g36 : M34.get p = some ⟨[(i64 N), (i64 st), (i64 en), (sli b26 0 (kq + 1) (kq + 1)), (.slice fa fn fc)], 28, 5, 0, true⟩ := g36
  have g41 := (kp37 _ (Ne.symm dpb14)).trans g33
  have g42 := (kp37 _ (Ne.symm dpb26)).trans g30
  have hraw := s5_4s_raw p N st en v fa fn fc bq kq wq cq M M3 b14 M15 b26 M27 M34
  have rw0 : Mem.mk M.blks M.next (hides 0 [⟨1, 1, M.next, M.next⟩, ⟨0, 0, M.next, M.next⟩] ++ M.hide) M.log = M := by rw [show hides 0 [⟨1, 1, M.next, M.next⟩, ⟨0, 0, M.next, M.next⟩] = [] from by simp [hides, Nat.beq_refl, show Nat.beq 1 0 = false from rfl]]; rfl
  have rw1 : Mem.mk M.blks M.next (hides 4 [⟨2, 0, M.next, M.next⟩, ⟨1, 1, M.next, M.next⟩, ⟨0, 0, M.next, M.next⟩] ++ M.hide) M.log = M := by rw [show hides 4 [⟨2, 0, M.next, M.next⟩, ⟨1, 1, M.next, M.next⟩, ⟨0, 0, M.next, M.next⟩] = [] from by simp [hides, Nat.beq_refl, show Nat.beq 1 0 = false from rfl]]; rfl
  have rw2 : Mem.mk M3.blks M3.next M.hide M3.log = M3 := by rw [(show M.hide = M3.hide from ((X0).hide.trans (X13).hide.symm))]
  have rw3 : Mem.mk M3.blks M3.next (hides 12 [⟨3, 1, M.next, M3.next⟩, ⟨2, 0, M.next, M.next⟩, ⟨1, 1, M.next, M.next⟩, ⟨0, 0, M.next, M.next⟩] ++ M.hide) M3.log = M3 := by rw [show hides 12 [⟨3, 1, M.next, M3.next⟩, ⟨2, 0, M.next, M.next⟩, ⟨1, 1, M.next, M.next⟩, ⟨0, 0, M.next, M.next⟩] = [] from by simp [hides, Nat.beq_refl, nxM3, show Nat.beq 1 0 = false from rfl, show Nat.testBit 12 3 = true from rfl], (show M.hide = M3.hide from ((X0).hide.trans (X13).hide.symm))]; rfl
  have rw4 : Mem.mk M3.blks M3.next (hides 28 [⟨4, 0, M3.next, M3.next⟩, ⟨3, 1, M.next, M3.next⟩, ⟨2, 0, M.next, M.next⟩, ⟨1, 1, M.next, M.next⟩, ⟨0, 0, M.next, M.next⟩] ++ M.hide) M3.log = M3 := by rw [show hides 28 [⟨4, 0, M3.next, M3.next⟩, ⟨3, 1, M.next, M3.next⟩, ⟨2, 0, M.next, M.next⟩, ⟨1, 1, M.next, M.next⟩, ⟨0, 0, M.next, M.next⟩] = [] from by simp [hides, Nat.beq_refl, nxM3, show Nat.beq 1 0 = false from rfl, show Nat.testBit 28 3 = true from rfl], (show M.hide = M3.hide from ((X0).hide.trans (X13).hide.symm))]; rfl
  have rw5 : Mem.mk M3.blks M3.next (hides 60 [⟨5, 0, M3.next, M3.next⟩, ⟨4, 0, M3.next, M3.next⟩, ⟨3, 1, M.next, M3.next⟩, ⟨2, 0, M.next, M.next⟩, ⟨1, 1, M.next, M.next⟩, ⟨0, 0, M.next, M.next⟩] ++ M.hide) M3.log = M3 := by rw [show hides 60 [⟨5, 0, M3.next, M3.next⟩, ⟨4, 0, M3.next, M3.next⟩, ⟨3, 1, M.next, M3.next⟩, ⟨2, 0, M.next, M.next⟩, ⟨1, 1, M.next, M.next⟩, ⟨0, 0, M.next, M.next⟩] = [] from by simp [hides, Nat.beq_refl, nxM3, show Nat.beq 1 0 = false from rfl, show Nat.testBit 60 3 = true from rfl], (show M.hide = M3.hide from ((X0).hide.trans (X13).hide.symm))]; rfl
  have rw6 : Mem.mk M15.blks M15.next M.hide M15.log = M15 := by rw [(show M.hide = M15.hide from ((X0).hide.trans (X23).hide.symm))]
  have rw7 : Mem.mk M27.blks M27.next M.hide M27.log = M27 := by rw [(show M.hide = M27.hide from ((X0).hide.trans (X25).hide.symm))]
  have rw8 : Mem.mk M34.blks M34.next M.hide M34.log = M34 := by rw [(show M.hide = M34.hide from ((X0).hide.trans (X38).hide.symm))]
  try rw [rw0] at hraw
  try rw [rw1] at hraw
  try rw [rw2] at hraw
  try rw [rw3] at hraw
  try rw [rw4] at hraw
  try rw [rw5] at hraw
  try rw [rw6] at hraw
  try rw [rw7] at hraw
  try rw [rw8] at hraw
  have hkp : ∀ id k, M.get id = some k → id ≠ p → id ≠ bq → M34.get id = some k := fun id k g hp hq => by
    have g := E7.old g
    have g := E19.old g
    have g := (kp24 id hq (Mem.lt_of_get g)).trans g
    have g := ((fun id h _ => kp37 id h) id hp (Mem.lt_of_get g)).trans g
    exact g
  obtain ⟨T1, h1, h2⟩ := Rd.told noNumP mixedP (fun B => specsB_ok (k := []) (hS5_25 B) (fun p hp => by cases hp)) (fun _ _ => rfl) hraw (hk (lC dC25 gp rfl) (hk (q_call rfl p4 l5 e6) (hk (q_eq (by rw [← eb16, ← em17]; kernel_rfl) Nat.one_ne_zero) (hk (q_app (by rw [← eb28, ← em29]; exact append_keep (w := 3) (y := 24) (by kernel_rfl) (by kernel_rfl) (by kernel_rfl) (by kernel_rfl) (by decide) (by decide) hkq hkq0 g18 rfl rfl rfl g22 hcq hwq) (Nat.succ_ne_zero _)) (hk (q_st q35) hn)))))
  exact ⟨T1, M34, b26, h1, h2, X38, hM39, g36, g42, hkp⟩
theorem s5_5n_raw (p : Nat) (N _ _ v : Int) (_ : Option Addr) (_ _ : Nat) (M : Mem) (M3 : Mem) (b13 : Nat) (M14 : Mem) (b22 : Nat) (M23 : Mem) (M32 : Mem) : oR Try.prog [] 60 Try.f5 (.block 0 (q5.blkAt 0)) [(5, (i64 v)), (13, (pt p 0)), (36, (i64 5))] M [ttL 33 sln, ttL 39 (i64 N), ttV 43 (i64 (modI v (IntKind.wrap .i64 (N + (2 : Int))))) M3, ttV 49 (sli b13 0 1 2) M14, .at 51 (1, .val (sli b22 0 1 1), M23), ttS 55 M32] [13] = some (.normal, [some (pt p 0)], (Mem.mk M32.blks M32.next M.hide M32.log), [qL 26 p 4 M sln, qL 3 p 0 (Mem.mk M.blks M.next (hides 8 [⟨3, 0, M.next, M.next⟩, ⟨2, 0, M.next, M.next⟩, ⟨1, 1, M.next, M.next⟩, ⟨0, 0, M.next, M.next⟩] ++ M.hide) M.log) (i64 N), qC 25 [(i64 v), (i64 (IntKind.wrap .i64 (N + (2 : Int))))] (Mem.mk M.blks M.next (hides 60 [⟨5, 0, M.next, M.next⟩, ⟨4, 1, M.next, M.next⟩, ⟨3, 0, M.next, M.next⟩, ⟨2, 0, M.next, M.next⟩, ⟨1, 1, M.next, M.next⟩, ⟨0, 0, M.next, M.next⟩] ++ M.hide) M.log) (i64 (modI v (IntKind.wrap .i64 (N + (2 : Int))))) M3, .eq (abuildSlice Try.prog 26 1 [(0, (.agg ⟨[(i64 (IntKind.wrap .i64 ((modI v (IntKind.wrap .i64 (N + (2 : Int)))) - (1 : Int)))), (i64 0)]⟩))] (Mem.mk M3.blks M3.next (hides 508 [⟨8, 0, M3.next, M3.next⟩, ⟨7, 0, M3.next, M3.next⟩, ⟨6, 1, M.next, M3.next⟩, ⟨5, 0, M.next, M.next⟩, ⟨4, 1, M.next, M.next⟩, ⟨3, 0, M.next, M.next⟩, ⟨2, 0, M.next, M.next⟩, ⟨1, 1, M.next, M.next⟩, ⟨0, 0, M.next, M.next⟩] ++ M.hide) M3.log)) (1, .val (sli b13 0 1 2), M14), .q (.append [26, 26] sln (sli b13 0 1 2) (Mem.mk M14.blks M14.next M.hide M14.log)) (1, .val (sli b22 0 1 1), M23), qS 26 p 4 (sli b22 0 1 1) (Mem.mk M23.blks M23.next M.hide M23.log) M32]) := by kernel_rfl
theorem s5_5n (p : Nat) (N st en v : Int) (sa : Option Addr) (sn sc : Nat) {M : Mem} (hM : MemOk M) {M0 : Mem} (X0 : Ext M0 M) (np : M0.next ≤ p) (hN : 1 ≤ N ∧ N ≤ 7) (gp : M.get p = some ⟨[(i64 N), (i64 st), (i64 en), (.slice sa sn sc), sln], 28, 5, 0, true⟩) : ∃ T1 M' b, Rd Try.prog [] (.block 0 (q5.blkAt 0)) Try.f5.ntmps (fr [(5, (i64 v)), (13, (pt p 0)), (36, (i64 5))]) M .normal T1 M' ∧ [13].map T1.get = [some (pt p 0)] ∧ Ext M0 M' ∧ MemOk M' ∧ M'.get p = some ⟨[(i64 N), (i64 st), (i64 en), (.slice sa sn sc), (sli b 0 1 1)], 28, 5, 0, true⟩ ∧ M'.get b = some ⟨[(i64 (IntKind.wrap .i64 ((modI v (IntKind.wrap .i64 (N + (2 : Int)))) - (1 : Int)))), (i64 0)], 49, 2, 0, true⟩ ∧ ∀ id k, M.get id = some k → id ≠ p → M'.get id = some k := by
  have hw2 : 1 ≤ IntKind.wrap .i64 (N + (2 : Int)) ∧ IntKind.wrap .i64 (N + (2 : Int)) ≤ 9 := by rw [wr_small (by omega) (by omega)]; omega
  obtain ⟨w1, N2, M3, p4, l5, e6, E7, hM8, Q9, G10⟩ := call_t (P := Try.prog) (GL := []) (f := 25) hM (con25 v (IntKind.wrap .i64 (N + (2 : Int))) (by simp <;> omega))
  have g11 := E7.old gp
  have ew1 : w1 = (i64 (modI v (IntKind.wrap .i64 (N + (2 : Int))))) := (Option.some.inj Q9.1).symm
  subst ew1
  have nxM3 : M3.next = M.next := by rw [← e6]; exact Q9.2
  have X12 := X0.trans E7
  obtain ⟨b13, M14, eb15, em16, g17, E18, hM19⟩ := new_t hM8 ⟨[(i64 (IntKind.wrap .i64 ((modI v (IntKind.wrap .i64 (N + (2 : Int)))) - (1 : Int)))), (i64 0)], 49, 2, 0, true⟩
  have nb13 : M0.next ≤ b13 := by rw [← eb15]; exact X12.next
  have dpb13 : p ≠ b13 := by have := Mem.lt_of_get g11; omega
  have g20 := E18.old g11
  have X21 := X12.trans E18
  obtain ⟨b22, M23, eb24, em25, g26, E28, hM27⟩ := new_t hM19 ⟨[(i64 (IntKind.wrap .i64 ((modI v (IntKind.wrap .i64 (N + (2 : Int)))) - (1 : Int)))), (i64 0)], 49, 2, 0, true⟩
  have nb22 : M0.next ≤ b22 := by rw [← eb24]; exact X21.next
  have dpb22 : p ≠ b22 := by have := Mem.lt_of_get g20; omega
  have db13b22 : b13 ≠ b22 := by have := Mem.lt_of_get g17; omega
  have g29 := E28.old g20
  have g30 := E28.old g17
  have X31 := X21.trans E28
  obtain ⟨M32, q33, g34, kp35, X36, hM37, nx38⟩ := store_t (o := 4) (v := (sli b22 0 1 1)) (new := [(i64 N), (i64 st), (i64 en), (.slice sa sn sc), (sli b22 0 1 1)]) X31 np hM27 dS26 g29 rfl rfl (Nat.zero_le _) (Nat.le_of_ble_eq_true rfl) rfl
  replace g34 : M32.get p = some ⟨[(i64 N), (i64 st), (i64 en), (.slice sa sn sc), (sli b22 0 1 1)], 28, 5, 0, true⟩ := g34
  have g39 := (kp35 _ (Ne.symm dpb13)).trans g30
  have g40 := (kp35 _ (Ne.symm dpb22)).trans g26
  have hraw := s5_5n_raw p N st en v sa sn sc M M3 b13 M14 b22 M23 M32
  have rw0 : Mem.mk M.blks M.next (hides 0 [⟨1, 1, M.next, M.next⟩, ⟨0, 0, M.next, M.next⟩] ++ M.hide) M.log = M := by rw [show hides 0 [⟨1, 1, M.next, M.next⟩, ⟨0, 0, M.next, M.next⟩] = [] from by simp [hides, Nat.beq_refl, show Nat.beq 1 0 = false from rfl]]; rfl
  have rw1 : Mem.mk M.blks M.next (hides 0 [⟨2, 0, M.next, M.next⟩, ⟨1, 1, M.next, M.next⟩, ⟨0, 0, M.next, M.next⟩] ++ M.hide) M.log = M := by rw [show hides 0 [⟨2, 0, M.next, M.next⟩, ⟨1, 1, M.next, M.next⟩, ⟨0, 0, M.next, M.next⟩] = [] from by simp [hides, Nat.beq_refl, show Nat.beq 1 0 = false from rfl]]; rfl
  have rw2 : Mem.mk M.blks M.next (hides 8 [⟨3, 0, M.next, M.next⟩, ⟨2, 0, M.next, M.next⟩, ⟨1, 1, M.next, M.next⟩, ⟨0, 0, M.next, M.next⟩] ++ M.hide) M.log = M := by rw [show hides 8 [⟨3, 0, M.next, M.next⟩, ⟨2, 0, M.next, M.next⟩, ⟨1, 1, M.next, M.next⟩, ⟨0, 0, M.next, M.next⟩] = [] from by simp [hides, Nat.beq_refl, show Nat.beq 1 0 = false from rfl]]; rfl
  have rw3 : Mem.mk M.blks M.next (hides 24 [⟨4, 1, M.next, M.next⟩, ⟨3, 0, M.next, M.next⟩, ⟨2, 0, M.next, M.next⟩, ⟨1, 1, M.next, M.next⟩, ⟨0, 0, M.next, M.next⟩] ++ M.hide) M.log = M := by rw [show hides 24 [⟨4, 1, M.next, M.next⟩, ⟨3, 0, M.next, M.next⟩, ⟨2, 0, M.next, M.next⟩, ⟨1, 1, M.next, M.next⟩, ⟨0, 0, M.next, M.next⟩] = [] from by simp [hides, Nat.beq_refl, show Nat.beq 1 0 = false from rfl, show Nat.testBit 24 4 = true from rfl]]; rfl
  have rw4 : Mem.mk M.blks M.next (hides 60 [⟨5, 0, M.next, M.next⟩, ⟨4, 1, M.next, M.next⟩, ⟨3, 0, M.next, M.next⟩, ⟨2, 0, M.next, M.next⟩, ⟨1, 1, M.next, M.next⟩, ⟨0, 0, M.next, M.next⟩] ++ M.hide) M.log = M := by rw [show hides 60 [⟨5, 0, M.next, M.next⟩, ⟨4, 1, M.next, M.next⟩, ⟨3, 0, M.next, M.next⟩, ⟨2, 0, M.next, M.next⟩, ⟨1, 1, M.next, M.next⟩, ⟨0, 0, M.next, M.next⟩] = [] from by simp [hides, Nat.beq_refl, show Nat.beq 1 0 = false from rfl, show Nat.testBit 60 4 = true from rfl]]; rfl
  have rw5 : Mem.mk M3.blks M3.next M.hide M3.log = M3 := by rw [(show M.hide = M3.hide from ((X0).hide.trans (X12).hide.symm))]
  have rw6 : Mem.mk M3.blks M3.next (hides 124 [⟨6, 1, M.next, M3.next⟩, ⟨5, 0, M.next, M.next⟩, ⟨4, 1, M.next, M.next⟩, ⟨3, 0, M.next, M.next⟩, ⟨2, 0, M.next, M.next⟩, ⟨1, 1, M.next, M.next⟩, ⟨0, 0, M.next, M.next⟩] ++ M.hide) M3.log = M3 := by rw [show hides 124 [⟨6, 1, M.next, M3.next⟩, ⟨5, 0, M.next, M.next⟩, ⟨4, 1, M.next, M.next⟩, ⟨3, 0, M.next, M.next⟩, ⟨2, 0, M.next, M.next⟩, ⟨1, 1, M.next, M.next⟩, ⟨0, 0, M.next, M.next⟩] = [] from by simp [hides, Nat.beq_refl, nxM3, show Nat.beq 1 0 = false from rfl, show Nat.testBit 124 4 = true from rfl, show Nat.testBit 124 6 = true from rfl], (show M.hide = M3.hide from ((X0).hide.trans (X12).hide.symm))]; rfl
  have rw7 : Mem.mk M3.blks M3.next (hides 252 [⟨7, 0, M3.next, M3.next⟩, ⟨6, 1, M.next, M3.next⟩, ⟨5, 0, M.next, M.next⟩, ⟨4, 1, M.next, M.next⟩, ⟨3, 0, M.next, M.next⟩, ⟨2, 0, M.next, M.next⟩, ⟨1, 1, M.next, M.next⟩, ⟨0, 0, M.next, M.next⟩] ++ M.hide) M3.log = M3 := by rw [show hides 252 [⟨7, 0, M3.next, M3.next⟩, ⟨6, 1, M.next, M3.next⟩, ⟨5, 0, M.next, M.next⟩, ⟨4, 1, M.next, M.next⟩, ⟨3, 0, M.next, M.next⟩, ⟨2, 0, M.next, M.next⟩, ⟨1, 1, M.next, M.next⟩, ⟨0, 0, M.next, M.next⟩] = [] from by simp [hides, Nat.beq_refl, nxM3, show Nat.beq 1 0 = false from rfl, show Nat.testBit 252 4 = true from rfl, show Nat.testBit 252 6 = true from rfl], (show M.hide = M3.hide from ((X0).hide.trans (X12).hide.symm))]; rfl
  have rw8 : Mem.mk M3.blks M3.next (hides 508 [⟨8, 0, M3.next, M3.next⟩, ⟨7, 0, M3.next, M3.next⟩, ⟨6, 1, M.next, M3.next⟩, ⟨5, 0, M.next, M.next⟩, ⟨4, 1, M.next, M.next⟩, ⟨3, 0, M.next, M.next⟩, ⟨2, 0, M.next, M.next⟩, ⟨1, 1, M.next, M.next⟩, ⟨0, 0, M.next, M.next⟩] ++ M.hide) M3.log = M3 := by rw [show hides 508 [⟨8, 0, M3.next, M3.next⟩, ⟨7, 0, M3.next, M3.next⟩, ⟨6, 1, M.next, M3.next⟩, ⟨5, 0, M.next, M.next⟩, ⟨4, 1, M.next, M.next⟩, ⟨3, 0, M.next, M.next⟩, ⟨2, 0, M.next, M.next⟩, ⟨1, 1, M.next, M.next⟩, ⟨0, 0, M.next, M.next⟩] = [] from by simp [hides, Nat.beq_refl, nxM3, show Nat.beq 1 0 = false from rfl, show Nat.testBit 508 4 = true from rfl, show Nat.testBit 508 6 = true from rfl], (show M.hide = M3.hide from ((X0).hide.trans (X12).hide.symm))]; rfl
  have rw9 : Mem.mk M14.blks M14.next M.hide M14.log = M14 := by rw [(show M.hide = M14.hide from ((X0).hide.trans (X21).hide.symm))]
  have rw10 : Mem.mk M23.blks M23.next M.hide M23.log = M23 := by rw [(show M.hide = M23.hide from ((X0).hide.trans (X31).hide.symm))]
  have rw11 : Mem.mk M32.blks M32.next M.hide M32.log = M32 := by rw [(show M.hide = M32.hide from ((X0).hide.trans (X36).hide.symm))]
  try rw [rw0] at hraw
  try rw [rw1] at hraw
  try rw [rw2] at hraw
  try rw [rw3] at hraw
  try rw [rw4] at hraw
  try rw [rw5] at hraw
  try rw [rw6] at hraw
  try rw [rw7] at hraw
  try rw [rw8] at hraw
  try rw [rw9] at hraw
  try rw [rw10] at hraw
  try rw [rw11] at hraw
  have hkp : ∀ id k, M.get id = some k → id ≠ p → M32.get id = some k := fun id k g hp => by
    have g := E7.old g
    have g := E18.old g
    have g := E28.old g
    have g := ((fun id h _ => kp35 id h) id hp (Mem.lt_of_get g)).trans g
    exact g
  obtain ⟨T1, h1, h2⟩ := Rd.told noNumP mixedP (fun B => specsB_ok (k := []) (hS5_25 B) (fun p hp => by cases hp)) (fun _ _ => rfl) hraw (hk (lC dC26 gp rfl) (hk (lC dC3 gp rfl) (hk (q_call rfl p4 l5 e6) (hk (q_eq (by rw [← eb15, ← em16]; kernel_rfl) Nat.one_ne_zero) (hk (q_app (by rw [← eb24, ← em25]; exact append_nil (w := 2) (by kernel_rfl) (by kernel_rfl) (y := 16) (by kernel_rfl) (by decide) (by decide) g17 rfl rfl rfl) Nat.one_ne_zero) (hk (q_st q33) hn))))))
  exact ⟨T1, M32, b22, h1, h2, X36, hM37, g34, g40, hkp⟩
theorem s5_5s_raw (p : Nat) (N _ _ v : Int) (_ : Option Addr) (_ _ : Nat) (bq kq _ : Nat) (_ : List Value) (M : Mem) (M3 : Mem) (b14 : Nat) (M15 : Mem) (b26 : Nat) (M27 : Mem) (M34 : Mem) : oR Try.prog [] 60 Try.f5 (.block 0 (q5.blkAt 0)) [(5, (i64 v)), (13, (pt p 0)), (36, (i64 5))] M [ttL 33 (sli bq 0 kq kq), ttL 39 (i64 N), ttV 43 (i64 (modI v (IntKind.wrap .i64 (N + (2 : Int))))) M3, ttV 49 (sli b14 0 1 2) M15, .at 51 (2, .val (sli b26 0 (kq + 1) (kq + 1)), M27), ttS 55 M34] [13] = some (.normal, [some (pt p 0)], (Mem.mk M34.blks M34.next M.hide M34.log), [qL 26 p 4 M (sli bq 0 kq kq), qL 3 p 0 (Mem.mk M.blks M.next (hides 8 [⟨3, 0, M.next, M.next⟩, ⟨2, 0, M.next, M.next⟩, ⟨1, 1, M.next, M.next⟩, ⟨0, 0, M.next, M.next⟩] ++ M.hide) M.log) (i64 N), qC 25 [(i64 v), (i64 (IntKind.wrap .i64 (N + (2 : Int))))] (Mem.mk M.blks M.next (hides 60 [⟨5, 0, M.next, M.next⟩, ⟨4, 1, M.next, M.next⟩, ⟨3, 0, M.next, M.next⟩, ⟨2, 0, M.next, M.next⟩, ⟨1, 1, M.next, M.next⟩, ⟨0, 0, M.next, M.next⟩] ++ M.hide) M.log) (i64 (modI v (IntKind.wrap .i64 (N + (2 : Int))))) M3, .eq (abuildSlice Try.prog 26 1 [(0, (.agg ⟨[(i64 (IntKind.wrap .i64 ((modI v (IntKind.wrap .i64 (N + (2 : Int)))) - (1 : Int)))), (i64 0)]⟩))] (Mem.mk M3.blks M3.next (hides 508 [⟨8, 0, M3.next, M3.next⟩, ⟨7, 0, M3.next, M3.next⟩, ⟨6, 1, M.next, M3.next⟩, ⟨5, 0, M.next, M.next⟩, ⟨4, 1, M.next, M.next⟩, ⟨3, 0, M.next, M.next⟩, ⟨2, 0, M.next, M.next⟩, ⟨1, 1, M.next, M.next⟩, ⟨0, 0, M.next, M.next⟩] ++ M.hide) M3.log)) (1, .val (sli b14 0 1 2), M15), .q (.append [26, 26] (sli bq 0 kq kq) (sli b14 0 1 2) (Mem.mk M15.blks M15.next M.hide M15.log)) (2, .val (sli b26 0 (kq + 1) (kq + 1)), M27), qS 26 p 4 (sli b26 0 (kq + 1) (kq + 1)) (Mem.mk M27.blks M27.next M.hide M27.log) M34]) := by kernel_rfl
theorem s5_5s (p : Nat) (N st en v : Int) (sa : Option Addr) (sn sc : Nat) (bq kq wq : Nat) (cq : List Value) {M : Mem} (hM : MemOk M) {M0 : Mem} (X0 : Ext M0 M) (np : M0.next ≤ p) (hN : 1 ≤ N ∧ N ≤ 7) (gp : M.get p = some ⟨[(i64 N), (i64 st), (i64 en), (.slice sa sn sc), (sli bq 0 kq kq)], 28, 5, 0, true⟩) (nbq : M0.next ≤ bq) (gq : M.get bq = some ⟨cq, 49, 2, wq, true⟩) (dpbq : p ≠ bq) (hkq : kq < 1073741824) (hkq0 : 0 < kq) (hcq : cq.length = kq * 2) (hwq : wq ≤ kq * 2) : ∃ T1 M' b, Rd Try.prog [] (.block 0 (q5.blkAt 0)) Try.f5.ntmps (fr [(5, (i64 v)), (13, (pt p 0)), (36, (i64 5))]) M .normal T1 M' ∧ [13].map T1.get = [some (pt p 0)] ∧ Ext M0 M' ∧ MemOk M' ∧ M'.get p = some ⟨[(i64 N), (i64 st), (i64 en), (.slice sa sn sc), (sli b 0 (kq + 1) (kq + 1))], 28, 5, 0, true⟩ ∧ M'.get b = some ⟨cq ++ [(i64 (IntKind.wrap .i64 ((modI v (IntKind.wrap .i64 (N + (2 : Int)))) - (1 : Int)))), (i64 0)], 49, 2, kq * 2, true⟩ ∧ ∀ id k, M.get id = some k → id ≠ p → id ≠ bq → M'.get id = some k := by
  have hw2 : 1 ≤ IntKind.wrap .i64 (N + (2 : Int)) ∧ IntKind.wrap .i64 (N + (2 : Int)) ≤ 9 := by rw [wr_small (by omega) (by omega)]; omega
  obtain ⟨w1, N2, M3, p4, l5, e6, E7, hM8, Q9, G10⟩ := call_t (P := Try.prog) (GL := []) (f := 25) hM (con25 v (IntKind.wrap .i64 (N + (2 : Int))) (by simp <;> omega))
  have g11 := E7.old gp
  have g12 := E7.old gq
  have ew1 : w1 = (i64 (modI v (IntKind.wrap .i64 (N + (2 : Int))))) := (Option.some.inj Q9.1).symm
  subst ew1
  have nxM3 : M3.next = M.next := by rw [← e6]; exact Q9.2
  have X13 := X0.trans E7
  obtain ⟨b14, M15, eb16, em17, g18, E19, hM20⟩ := new_t hM8 ⟨[(i64 (IntKind.wrap .i64 ((modI v (IntKind.wrap .i64 (N + (2 : Int)))) - (1 : Int)))), (i64 0)], 49, 2, 0, true⟩
  have nb14 : M0.next ≤ b14 := by rw [← eb16]; exact X13.next
  have dpb14 : p ≠ b14 := by have := Mem.lt_of_get g11; omega
  have dbqb14 : bq ≠ b14 := by have := Mem.lt_of_get g12; omega
  have g21 := E19.old g11
  have g22 := E19.old g12
  have X23 := X13.trans E19
  obtain ⟨b26, M27, eb28, em29, g30, X25, hM31, kp24⟩ := keep_t X23 nbq hM20 ⟨cq, 49, 2, kq * 2, false⟩ ⟨cq ++ [(i64 (IntKind.wrap .i64 ((modI v (IntKind.wrap .i64 (N + (2 : Int)))) - (1 : Int)))), (i64 0)], 49, 2, kq * 2, true⟩
  have nb26 : M0.next ≤ b26 := by rw [← eb28]; exact X23.next
  have dpb26 : p ≠ b26 := by have := Mem.lt_of_get g21; omega
  have dbqb26 : bq ≠ b26 := by have := Mem.lt_of_get g22; omega
  have db14b26 : b14 ≠ b26 := by have := Mem.lt_of_get g18; omega
  have g32 := (kp24 _ dpbq (Mem.lt_of_get g21)).trans g21
  have g33 := (kp24 _ (Ne.symm dbqb14) (Mem.lt_of_get g18)).trans g18
  obtain ⟨M34, q35, g36, kp37, X38, hM39, nx40⟩ := store_t (o := 4) (v := (sli b26 0 (kq + 1) (kq + 1))) (new := [(i64 N), (i64 st), (i64 en), (.slice sa sn sc), (sli b26 0 (kq + 1) (kq + 1))]) X25 np hM31 dS26 g32 rfl rfl (Nat.zero_le _) (Nat.le_of_ble_eq_true rfl) rfl
  replace g36 : M34.get p = some ⟨[(i64 N), (i64 st), (i64 en), (.slice sa sn sc), (sli b26 0 (kq + 1) (kq + 1))], 28, 5, 0, true⟩ := g36
  have g41 := (kp37 _ (Ne.symm dpb14)).trans g33
  have g42 := (kp37 _ (Ne.symm dpb26)).trans g30
  have hraw := s5_5s_raw p N st en v sa sn sc bq kq wq cq M M3 b14 M15 b26 M27 M34
  have rw0 : Mem.mk M.blks M.next (hides 0 [⟨1, 1, M.next, M.next⟩, ⟨0, 0, M.next, M.next⟩] ++ M.hide) M.log = M := by rw [show hides 0 [⟨1, 1, M.next, M.next⟩, ⟨0, 0, M.next, M.next⟩] = [] from by simp [hides, Nat.beq_refl, show Nat.beq 1 0 = false from rfl]]; rfl
  have rw1 : Mem.mk M.blks M.next (hides 0 [⟨2, 0, M.next, M.next⟩, ⟨1, 1, M.next, M.next⟩, ⟨0, 0, M.next, M.next⟩] ++ M.hide) M.log = M := by rw [show hides 0 [⟨2, 0, M.next, M.next⟩, ⟨1, 1, M.next, M.next⟩, ⟨0, 0, M.next, M.next⟩] = [] from by simp [hides, Nat.beq_refl, show Nat.beq 1 0 = false from rfl]]; rfl
  have rw2 : Mem.mk M.blks M.next (hides 8 [⟨3, 0, M.next, M.next⟩, ⟨2, 0, M.next, M.next⟩, ⟨1, 1, M.next, M.next⟩, ⟨0, 0, M.next, M.next⟩] ++ M.hide) M.log = M := by rw [show hides 8 [⟨3, 0, M.next, M.next⟩, ⟨2, 0, M.next, M.next⟩, ⟨1, 1, M.next, M.next⟩, ⟨0, 0, M.next, M.next⟩] = [] from by simp [hides, Nat.beq_refl, show Nat.beq 1 0 = false from rfl]]; rfl
  have rw3 : Mem.mk M.blks M.next (hides 24 [⟨4, 1, M.next, M.next⟩, ⟨3, 0, M.next, M.next⟩, ⟨2, 0, M.next, M.next⟩, ⟨1, 1, M.next, M.next⟩, ⟨0, 0, M.next, M.next⟩] ++ M.hide) M.log = M := by rw [show hides 24 [⟨4, 1, M.next, M.next⟩, ⟨3, 0, M.next, M.next⟩, ⟨2, 0, M.next, M.next⟩, ⟨1, 1, M.next, M.next⟩, ⟨0, 0, M.next, M.next⟩] = [] from by simp [hides, Nat.beq_refl, show Nat.beq 1 0 = false from rfl, show Nat.testBit 24 4 = true from rfl]]; rfl
  have rw4 : Mem.mk M.blks M.next (hides 60 [⟨5, 0, M.next, M.next⟩, ⟨4, 1, M.next, M.next⟩, ⟨3, 0, M.next, M.next⟩, ⟨2, 0, M.next, M.next⟩, ⟨1, 1, M.next, M.next⟩, ⟨0, 0, M.next, M.next⟩] ++ M.hide) M.log = M := by rw [show hides 60 [⟨5, 0, M.next, M.next⟩, ⟨4, 1, M.next, M.next⟩, ⟨3, 0, M.next, M.next⟩, ⟨2, 0, M.next, M.next⟩, ⟨1, 1, M.next, M.next⟩, ⟨0, 0, M.next, M.next⟩] = [] from by simp [hides, Nat.beq_refl, show Nat.beq 1 0 = false from rfl, show Nat.testBit 60 4 = true from rfl]]; rfl
  have rw5 : Mem.mk M3.blks M3.next M.hide M3.log = M3 := by rw [(show M.hide = M3.hide from ((X0).hide.trans (X13).hide.symm))]
  have rw6 : Mem.mk M3.blks M3.next (hides 124 [⟨6, 1, M.next, M3.next⟩, ⟨5, 0, M.next, M.next⟩, ⟨4, 1, M.next, M.next⟩, ⟨3, 0, M.next, M.next⟩, ⟨2, 0, M.next, M.next⟩, ⟨1, 1, M.next, M.next⟩, ⟨0, 0, M.next, M.next⟩] ++ M.hide) M3.log = M3 := by rw [show hides 124 [⟨6, 1, M.next, M3.next⟩, ⟨5, 0, M.next, M.next⟩, ⟨4, 1, M.next, M.next⟩, ⟨3, 0, M.next, M.next⟩, ⟨2, 0, M.next, M.next⟩, ⟨1, 1, M.next, M.next⟩, ⟨0, 0, M.next, M.next⟩] = [] from by simp [hides, Nat.beq_refl, nxM3, show Nat.beq 1 0 = false from rfl, show Nat.testBit 124 4 = true from rfl, show Nat.testBit 124 6 = true from rfl], (show M.hide = M3.hide from ((X0).hide.trans (X13).hide.symm))]; rfl
  have rw7 : Mem.mk M3.blks M3.next (hides 252 [⟨7, 0, M3.next, M3.next⟩, ⟨6, 1, M.next, M3.next⟩, ⟨5, 0, M.next, M.next⟩, ⟨4, 1, M.next, M.next⟩, ⟨3, 0, M.next, M.next⟩, ⟨2, 0, M.next, M.next⟩, ⟨1, 1, M.next, M.next⟩, ⟨0, 0, M.next, M.next⟩] ++ M.hide) M3.log = M3 := by rw [show hides 252 [⟨7, 0, M3.next, M3.next⟩, ⟨6, 1, M.next, M3.next⟩, ⟨5, 0, M.next, M.next⟩, ⟨4, 1, M.next, M.next⟩, ⟨3, 0, M.next, M.next⟩, ⟨2, 0, M.next, M.next⟩, ⟨1, 1, M.next, M.next⟩, ⟨0, 0, M.next, M.next⟩] = [] from by simp [hides, Nat.beq_refl, nxM3, show Nat.beq 1 0 = false from rfl, show Nat.testBit 252 4 = true from rfl, show Nat.testBit 252 6 = true from rfl], (show M.hide = M3.hide from ((X0).hide.trans (X13).hide.symm))]; rfl
  have rw8 : Mem.mk M3.blks M3.next (hides 508 [⟨8, 0, M3.next, M3.next⟩, ⟨7, 0, M3.next, M3.next⟩, ⟨6, 1, M.next, M3.next⟩, ⟨5, 0, M.next, M.next⟩, ⟨4, 1, M.next, M.next⟩, ⟨3, 0, M.next, M.next⟩, ⟨2, 0, M.next, M.next⟩, ⟨1, 1, M.next, M.next⟩, ⟨0, 0, M.next, M.next⟩] ++ M.hide) M3.log = M3 := by rw [show hides 508 [⟨8, 0, M3.next, M3.next⟩, ⟨7, 0, M3.next, M3.next⟩, ⟨6, 1, M.next, M3.next⟩, ⟨5, 0, M.next, M.next⟩, ⟨4, 1, M.next, M.next⟩, ⟨3, 0, M.next, M.next⟩, ⟨2, 0, M.next, M.next⟩, ⟨1, 1, M.next, M.next⟩, ⟨0, 0, M.next, M.next⟩] = [] from by simp [hides, Nat.beq_refl, nxM3, show Nat.beq 1 0 = false from rfl, show Nat.testBit 508 4 = true from rfl, show Nat.testBit 508 6 = true from rfl], (show M.hide = M3.hide from ((X0).hide.trans (X13).hide.symm))]; rfl
  have rw9 : Mem.mk M15.blks M15.next M.hide M15.log = M15 := by rw [(show M.hide = M15.hide from ((X0).hide.trans (X23).hide.symm))]
  have rw10 : Mem.mk M27.blks M27.next M.hide M27.log = M27 := by rw [(show M.hide = M27.hide from ((X0).hide.trans (X25).hide.symm))]
  have rw11 : Mem.mk M34.blks M34.next M.hide M34.log = M34 := by rw [(show M.hide = M34.hide from ((X0).hide.trans (X38).hide.symm))]
  try rw [rw0] at hraw
  try rw [rw1] at hraw
  try rw [rw2] at hraw
  try rw [rw3] at hraw
  try rw [rw4] at hraw
  try rw [rw5] at hraw
  try rw [rw6] at hraw
  try rw [rw7] at hraw
  try rw [rw8] at hraw
  try rw [rw9] at hraw
  try rw [rw10] at hraw
  try rw [rw11] at hraw
  have hkp : ∀ id k, M.get id = some k → id ≠ p → id ≠ bq → M34.get id = some k := fun id k g hp hq => by
    have g := E7.old g
    have g := E19.old g
    have g := (kp24 id hq (Mem.lt_of_get g)).trans g
    have g := ((fun id h _ => kp37 id h) id hp (Mem.lt_of_get g)).trans g
    exact g
  obtain ⟨T1, h1, h2⟩ := Rd.told noNumP mixedP (fun B => specsB_ok (k := []) (hS5_25 B) (fun p hp => by cases hp)) (fun _ _ => rfl) hraw (hk (lC dC26 gp rfl) (hk (lC dC3 gp rfl) (hk (q_call rfl p4 l5 e6) (hk (q_eq (by rw [← eb16, ← em17]; kernel_rfl) Nat.one_ne_zero) (hk (q_app (by rw [← eb28, ← em29]; exact append_keep (w := 2) (y := 16) (by kernel_rfl) (by kernel_rfl) (by kernel_rfl) (by kernel_rfl) (by decide) (by decide) hkq hkq0 g18 rfl rfl rfl g22 hcq hwq) (Nat.succ_ne_zero _)) (hk (q_st q35) hn))))))
  exact ⟨T1, M34, b26, h1, h2, X38, hM39, g36, g42, hkp⟩
theorem s5_6n_raw (p : Nat) (N _ _ v : Int) (_ : Option Addr) (_ _ : Nat) (M : Mem) (M3 : Mem) (b13 : Nat) (M14 : Mem) (b22 : Nat) (M23 : Mem) (M32 : Mem) : oR Try.prog [] 60 Try.f5 (.block 0 (q5.blkAt 0)) [(5, (i64 v)), (13, (pt p 0)), (36, (i64 6))] M [ttL 38 sln, ttL 44 (i64 N), ttV 48 (i64 (modI v (IntKind.wrap .i64 (N + (2 : Int))))) M3, ttV 54 (sli b13 0 1 2) M14, .at 56 (1, .val (sli b22 0 1 1), M23), ttS 60 M32] [13] = some (.normal, [some (pt p 0)], (Mem.mk M32.blks M32.next M.hide M32.log), [qL 26 p 4 M sln, qL 3 p 0 (Mem.mk M.blks M.next (hides 8 [⟨3, 0, M.next, M.next⟩, ⟨2, 0, M.next, M.next⟩, ⟨1, 1, M.next, M.next⟩, ⟨0, 0, M.next, M.next⟩] ++ M.hide) M.log) (i64 N), qC 25 [(i64 v), (i64 (IntKind.wrap .i64 (N + (2 : Int))))] (Mem.mk M.blks M.next (hides 60 [⟨5, 0, M.next, M.next⟩, ⟨4, 1, M.next, M.next⟩, ⟨3, 0, M.next, M.next⟩, ⟨2, 0, M.next, M.next⟩, ⟨1, 1, M.next, M.next⟩, ⟨0, 0, M.next, M.next⟩] ++ M.hide) M.log) (i64 (modI v (IntKind.wrap .i64 (N + (2 : Int))))) M3, .eq (abuildSlice Try.prog 26 1 [(0, (.agg ⟨[(i64 0), (i64 (IntKind.wrap .i64 ((modI v (IntKind.wrap .i64 (N + (2 : Int)))) - (1 : Int))))]⟩))] (Mem.mk M3.blks M3.next (hides 508 [⟨8, 0, M3.next, M3.next⟩, ⟨7, 0, M3.next, M3.next⟩, ⟨6, 1, M.next, M3.next⟩, ⟨5, 0, M.next, M.next⟩, ⟨4, 1, M.next, M.next⟩, ⟨3, 0, M.next, M.next⟩, ⟨2, 0, M.next, M.next⟩, ⟨1, 1, M.next, M.next⟩, ⟨0, 0, M.next, M.next⟩] ++ M.hide) M3.log)) (1, .val (sli b13 0 1 2), M14), .q (.append [26, 26] sln (sli b13 0 1 2) (Mem.mk M14.blks M14.next M.hide M14.log)) (1, .val (sli b22 0 1 1), M23), qS 26 p 4 (sli b22 0 1 1) (Mem.mk M23.blks M23.next M.hide M23.log) M32]) := by kernel_rfl
theorem s5_6n (p : Nat) (N st en v : Int) (sa : Option Addr) (sn sc : Nat) {M : Mem} (hM : MemOk M) {M0 : Mem} (X0 : Ext M0 M) (np : M0.next ≤ p) (hN : 1 ≤ N ∧ N ≤ 7) (gp : M.get p = some ⟨[(i64 N), (i64 st), (i64 en), (.slice sa sn sc), sln], 28, 5, 0, true⟩) : ∃ T1 M' b, Rd Try.prog [] (.block 0 (q5.blkAt 0)) Try.f5.ntmps (fr [(5, (i64 v)), (13, (pt p 0)), (36, (i64 6))]) M .normal T1 M' ∧ [13].map T1.get = [some (pt p 0)] ∧ Ext M0 M' ∧ MemOk M' ∧ M'.get p = some ⟨[(i64 N), (i64 st), (i64 en), (.slice sa sn sc), (sli b 0 1 1)], 28, 5, 0, true⟩ ∧ M'.get b = some ⟨[(i64 0), (i64 (IntKind.wrap .i64 ((modI v (IntKind.wrap .i64 (N + (2 : Int)))) - (1 : Int))))], 49, 2, 0, true⟩ ∧ ∀ id k, M.get id = some k → id ≠ p → M'.get id = some k := by
  have hw2 : 1 ≤ IntKind.wrap .i64 (N + (2 : Int)) ∧ IntKind.wrap .i64 (N + (2 : Int)) ≤ 9 := by rw [wr_small (by omega) (by omega)]; omega
  obtain ⟨w1, N2, M3, p4, l5, e6, E7, hM8, Q9, G10⟩ := call_t (P := Try.prog) (GL := []) (f := 25) hM (con25 v (IntKind.wrap .i64 (N + (2 : Int))) (by simp <;> omega))
  have g11 := E7.old gp
  have ew1 : w1 = (i64 (modI v (IntKind.wrap .i64 (N + (2 : Int))))) := (Option.some.inj Q9.1).symm
  subst ew1
  have nxM3 : M3.next = M.next := by rw [← e6]; exact Q9.2
  have X12 := X0.trans E7
  obtain ⟨b13, M14, eb15, em16, g17, E18, hM19⟩ := new_t hM8 ⟨[(i64 0), (i64 (IntKind.wrap .i64 ((modI v (IntKind.wrap .i64 (N + (2 : Int)))) - (1 : Int))))], 49, 2, 0, true⟩
  have nb13 : M0.next ≤ b13 := by rw [← eb15]; exact X12.next
  have dpb13 : p ≠ b13 := by have := Mem.lt_of_get g11; omega
  have g20 := E18.old g11
  have X21 := X12.trans E18
  obtain ⟨b22, M23, eb24, em25, g26, E28, hM27⟩ := new_t hM19 ⟨[(i64 0), (i64 (IntKind.wrap .i64 ((modI v (IntKind.wrap .i64 (N + (2 : Int)))) - (1 : Int))))], 49, 2, 0, true⟩
  have nb22 : M0.next ≤ b22 := by rw [← eb24]; exact X21.next
  have dpb22 : p ≠ b22 := by have := Mem.lt_of_get g20; omega
  have db13b22 : b13 ≠ b22 := by have := Mem.lt_of_get g17; omega
  have g29 := E28.old g20
  have g30 := E28.old g17
  have X31 := X21.trans E28
  obtain ⟨M32, q33, g34, kp35, X36, hM37, nx38⟩ := store_t (o := 4) (v := (sli b22 0 1 1)) (new := [(i64 N), (i64 st), (i64 en), (.slice sa sn sc), (sli b22 0 1 1)]) X31 np hM27 dS26 g29 rfl rfl (Nat.zero_le _) (Nat.le_of_ble_eq_true rfl) rfl
  replace g34 : M32.get p = some ⟨[(i64 N), (i64 st), (i64 en), (.slice sa sn sc), (sli b22 0 1 1)], 28, 5, 0, true⟩ := g34
  have g39 := (kp35 _ (Ne.symm dpb13)).trans g30
  have g40 := (kp35 _ (Ne.symm dpb22)).trans g26
  have hraw := s5_6n_raw p N st en v sa sn sc M M3 b13 M14 b22 M23 M32
  have rw0 : Mem.mk M.blks M.next (hides 0 [⟨1, 1, M.next, M.next⟩, ⟨0, 0, M.next, M.next⟩] ++ M.hide) M.log = M := by rw [show hides 0 [⟨1, 1, M.next, M.next⟩, ⟨0, 0, M.next, M.next⟩] = [] from by simp [hides, Nat.beq_refl, show Nat.beq 1 0 = false from rfl]]; rfl
  have rw1 : Mem.mk M.blks M.next (hides 0 [⟨2, 0, M.next, M.next⟩, ⟨1, 1, M.next, M.next⟩, ⟨0, 0, M.next, M.next⟩] ++ M.hide) M.log = M := by rw [show hides 0 [⟨2, 0, M.next, M.next⟩, ⟨1, 1, M.next, M.next⟩, ⟨0, 0, M.next, M.next⟩] = [] from by simp [hides, Nat.beq_refl, show Nat.beq 1 0 = false from rfl]]; rfl
  have rw2 : Mem.mk M.blks M.next (hides 8 [⟨3, 0, M.next, M.next⟩, ⟨2, 0, M.next, M.next⟩, ⟨1, 1, M.next, M.next⟩, ⟨0, 0, M.next, M.next⟩] ++ M.hide) M.log = M := by rw [show hides 8 [⟨3, 0, M.next, M.next⟩, ⟨2, 0, M.next, M.next⟩, ⟨1, 1, M.next, M.next⟩, ⟨0, 0, M.next, M.next⟩] = [] from by simp [hides, Nat.beq_refl, show Nat.beq 1 0 = false from rfl]]; rfl
  have rw3 : Mem.mk M.blks M.next (hides 24 [⟨4, 1, M.next, M.next⟩, ⟨3, 0, M.next, M.next⟩, ⟨2, 0, M.next, M.next⟩, ⟨1, 1, M.next, M.next⟩, ⟨0, 0, M.next, M.next⟩] ++ M.hide) M.log = M := by rw [show hides 24 [⟨4, 1, M.next, M.next⟩, ⟨3, 0, M.next, M.next⟩, ⟨2, 0, M.next, M.next⟩, ⟨1, 1, M.next, M.next⟩, ⟨0, 0, M.next, M.next⟩] = [] from by simp [hides, Nat.beq_refl, show Nat.beq 1 0 = false from rfl, show Nat.testBit 24 4 = true from rfl]]; rfl
  have rw4 : Mem.mk M.blks M.next (hides 60 [⟨5, 0, M.next, M.next⟩, ⟨4, 1, M.next, M.next⟩, ⟨3, 0, M.next, M.next⟩, ⟨2, 0, M.next, M.next⟩, ⟨1, 1, M.next, M.next⟩, ⟨0, 0, M.next, M.next⟩] ++ M.hide) M.log = M := by rw [show hides 60 [⟨5, 0, M.next, M.next⟩, ⟨4, 1, M.next, M.next⟩, ⟨3, 0, M.next, M.next⟩, ⟨2, 0, M.next, M.next⟩, ⟨1, 1, M.next, M.next⟩, ⟨0, 0, M.next, M.next⟩] = [] from by simp [hides, Nat.beq_refl, show Nat.beq 1 0 = false from rfl, show Nat.testBit 60 4 = true from rfl]]; rfl
  have rw5 : Mem.mk M3.blks M3.next M.hide M3.log = M3 := by rw [(show M.hide = M3.hide from ((X0).hide.trans (X12).hide.symm))]
  have rw6 : Mem.mk M3.blks M3.next (hides 124 [⟨6, 1, M.next, M3.next⟩, ⟨5, 0, M.next, M.next⟩, ⟨4, 1, M.next, M.next⟩, ⟨3, 0, M.next, M.next⟩, ⟨2, 0, M.next, M.next⟩, ⟨1, 1, M.next, M.next⟩, ⟨0, 0, M.next, M.next⟩] ++ M.hide) M3.log = M3 := by rw [show hides 124 [⟨6, 1, M.next, M3.next⟩, ⟨5, 0, M.next, M.next⟩, ⟨4, 1, M.next, M.next⟩, ⟨3, 0, M.next, M.next⟩, ⟨2, 0, M.next, M.next⟩, ⟨1, 1, M.next, M.next⟩, ⟨0, 0, M.next, M.next⟩] = [] from by simp [hides, Nat.beq_refl, nxM3, show Nat.beq 1 0 = false from rfl, show Nat.testBit 124 4 = true from rfl, show Nat.testBit 124 6 = true from rfl], (show M.hide = M3.hide from ((X0).hide.trans (X12).hide.symm))]; rfl
  have rw7 : Mem.mk M3.blks M3.next (hides 252 [⟨7, 0, M3.next, M3.next⟩, ⟨6, 1, M.next, M3.next⟩, ⟨5, 0, M.next, M.next⟩, ⟨4, 1, M.next, M.next⟩, ⟨3, 0, M.next, M.next⟩, ⟨2, 0, M.next, M.next⟩, ⟨1, 1, M.next, M.next⟩, ⟨0, 0, M.next, M.next⟩] ++ M.hide) M3.log = M3 := by rw [show hides 252 [⟨7, 0, M3.next, M3.next⟩, ⟨6, 1, M.next, M3.next⟩, ⟨5, 0, M.next, M.next⟩, ⟨4, 1, M.next, M.next⟩, ⟨3, 0, M.next, M.next⟩, ⟨2, 0, M.next, M.next⟩, ⟨1, 1, M.next, M.next⟩, ⟨0, 0, M.next, M.next⟩] = [] from by simp [hides, Nat.beq_refl, nxM3, show Nat.beq 1 0 = false from rfl, show Nat.testBit 252 4 = true from rfl, show Nat.testBit 252 6 = true from rfl], (show M.hide = M3.hide from ((X0).hide.trans (X12).hide.symm))]; rfl
  have rw8 : Mem.mk M3.blks M3.next (hides 508 [⟨8, 0, M3.next, M3.next⟩, ⟨7, 0, M3.next, M3.next⟩, ⟨6, 1, M.next, M3.next⟩, ⟨5, 0, M.next, M.next⟩, ⟨4, 1, M.next, M.next⟩, ⟨3, 0, M.next, M.next⟩, ⟨2, 0, M.next, M.next⟩, ⟨1, 1, M.next, M.next⟩, ⟨0, 0, M.next, M.next⟩] ++ M.hide) M3.log = M3 := by rw [show hides 508 [⟨8, 0, M3.next, M3.next⟩, ⟨7, 0, M3.next, M3.next⟩, ⟨6, 1, M.next, M3.next⟩, ⟨5, 0, M.next, M.next⟩, ⟨4, 1, M.next, M.next⟩, ⟨3, 0, M.next, M.next⟩, ⟨2, 0, M.next, M.next⟩, ⟨1, 1, M.next, M.next⟩, ⟨0, 0, M.next, M.next⟩] = [] from by simp [hides, Nat.beq_refl, nxM3, show Nat.beq 1 0 = false from rfl, show Nat.testBit 508 4 = true from rfl, show Nat.testBit 508 6 = true from rfl], (show M.hide = M3.hide from ((X0).hide.trans (X12).hide.symm))]; rfl
  have rw9 : Mem.mk M14.blks M14.next M.hide M14.log = M14 := by rw [(show M.hide = M14.hide from ((X0).hide.trans (X21).hide.symm))]
  have rw10 : Mem.mk M23.blks M23.next M.hide M23.log = M23 := by rw [(show M.hide = M23.hide from ((X0).hide.trans (X31).hide.symm))]
  have rw11 : Mem.mk M32.blks M32.next M.hide M32.log = M32 := by rw [(show M.hide = M32.hide from ((X0).hide.trans (X36).hide.symm))]
  try rw [rw0] at hraw
  try rw [rw1] at hraw
  try rw [rw2] at hraw
  try rw [rw3] at hraw
  try rw [rw4] at hraw
  try rw [rw5] at hraw
  try rw [rw6] at hraw
  try rw [rw7] at hraw
  try rw [rw8] at hraw
  try rw [rw9] at hraw
  try rw [rw10] at hraw
  try rw [rw11] at hraw
  have hkp : ∀ id k, M.get id = some k → id ≠ p → M32.get id = some k := fun id k g hp => by
    have g := E7.old g
    have g := E18.old g
    have g := E28.old g
    have g := ((fun id h _ => kp35 id h) id hp (Mem.lt_of_get g)).trans g
    exact g
  obtain ⟨T1, h1, h2⟩ := Rd.told noNumP mixedP (fun B => specsB_ok (k := []) (hS5_25 B) (fun p hp => by cases hp)) (fun _ _ => rfl) hraw (hk (lC dC26 gp rfl) (hk (lC dC3 gp rfl) (hk (q_call rfl p4 l5 e6) (hk (q_eq (by rw [← eb15, ← em16]; kernel_rfl) Nat.one_ne_zero) (hk (q_app (by rw [← eb24, ← em25]; exact append_nil (w := 2) (by kernel_rfl) (by kernel_rfl) (y := 16) (by kernel_rfl) (by decide) (by decide) g17 rfl rfl rfl) Nat.one_ne_zero) (hk (q_st q33) hn))))))
  exact ⟨T1, M32, b22, h1, h2, X36, hM37, g34, g40, hkp⟩
theorem s5_6s_raw (p : Nat) (N _ _ v : Int) (_ : Option Addr) (_ _ : Nat) (bq kq _ : Nat) (_ : List Value) (M : Mem) (M3 : Mem) (b14 : Nat) (M15 : Mem) (b26 : Nat) (M27 : Mem) (M34 : Mem) : oR Try.prog [] 60 Try.f5 (.block 0 (q5.blkAt 0)) [(5, (i64 v)), (13, (pt p 0)), (36, (i64 6))] M [ttL 38 (sli bq 0 kq kq), ttL 44 (i64 N), ttV 48 (i64 (modI v (IntKind.wrap .i64 (N + (2 : Int))))) M3, ttV 54 (sli b14 0 1 2) M15, .at 56 (2, .val (sli b26 0 (kq + 1) (kq + 1)), M27), ttS 60 M34] [13] = some (.normal, [some (pt p 0)], (Mem.mk M34.blks M34.next M.hide M34.log), [qL 26 p 4 M (sli bq 0 kq kq), qL 3 p 0 (Mem.mk M.blks M.next (hides 8 [⟨3, 0, M.next, M.next⟩, ⟨2, 0, M.next, M.next⟩, ⟨1, 1, M.next, M.next⟩, ⟨0, 0, M.next, M.next⟩] ++ M.hide) M.log) (i64 N), qC 25 [(i64 v), (i64 (IntKind.wrap .i64 (N + (2 : Int))))] (Mem.mk M.blks M.next (hides 60 [⟨5, 0, M.next, M.next⟩, ⟨4, 1, M.next, M.next⟩, ⟨3, 0, M.next, M.next⟩, ⟨2, 0, M.next, M.next⟩, ⟨1, 1, M.next, M.next⟩, ⟨0, 0, M.next, M.next⟩] ++ M.hide) M.log) (i64 (modI v (IntKind.wrap .i64 (N + (2 : Int))))) M3, .eq (abuildSlice Try.prog 26 1 [(0, (.agg ⟨[(i64 0), (i64 (IntKind.wrap .i64 ((modI v (IntKind.wrap .i64 (N + (2 : Int)))) - (1 : Int))))]⟩))] (Mem.mk M3.blks M3.next (hides 508 [⟨8, 0, M3.next, M3.next⟩, ⟨7, 0, M3.next, M3.next⟩, ⟨6, 1, M.next, M3.next⟩, ⟨5, 0, M.next, M.next⟩, ⟨4, 1, M.next, M.next⟩, ⟨3, 0, M.next, M.next⟩, ⟨2, 0, M.next, M.next⟩, ⟨1, 1, M.next, M.next⟩, ⟨0, 0, M.next, M.next⟩] ++ M.hide) M3.log)) (1, .val (sli b14 0 1 2), M15), .q (.append [26, 26] (sli bq 0 kq kq) (sli b14 0 1 2) (Mem.mk M15.blks M15.next M.hide M15.log)) (2, .val (sli b26 0 (kq + 1) (kq + 1)), M27), qS 26 p 4 (sli b26 0 (kq + 1) (kq + 1)) (Mem.mk M27.blks M27.next M.hide M27.log) M34]) := by kernel_rfl
theorem s5_6s (p : Nat) (N st en v : Int) (sa : Option Addr) (sn sc : Nat) (bq kq wq : Nat) (cq : List Value) {M : Mem} (hM : MemOk M) {M0 : Mem} (X0 : Ext M0 M) (np : M0.next ≤ p) (hN : 1 ≤ N ∧ N ≤ 7) (gp : M.get p = some ⟨[(i64 N), (i64 st), (i64 en), (.slice sa sn sc), (sli bq 0 kq kq)], 28, 5, 0, true⟩) (nbq : M0.next ≤ bq) (gq : M.get bq = some ⟨cq, 49, 2, wq, true⟩) (dpbq : p ≠ bq) (hkq : kq < 1073741824) (hkq0 : 0 < kq) (hcq : cq.length = kq * 2) (hwq : wq ≤ kq * 2) : ∃ T1 M' b, Rd Try.prog [] (.block 0 (q5.blkAt 0)) Try.f5.ntmps (fr [(5, (i64 v)), (13, (pt p 0)), (36, (i64 6))]) M .normal T1 M' ∧ [13].map T1.get = [some (pt p 0)] ∧ Ext M0 M' ∧ MemOk M' ∧ M'.get p = some ⟨[(i64 N), (i64 st), (i64 en), (.slice sa sn sc), (sli b 0 (kq + 1) (kq + 1))], 28, 5, 0, true⟩ ∧ M'.get b = some ⟨cq ++ [(i64 0), (i64 (IntKind.wrap .i64 ((modI v (IntKind.wrap .i64 (N + (2 : Int)))) - (1 : Int))))], 49, 2, kq * 2, true⟩ ∧ ∀ id k, M.get id = some k → id ≠ p → id ≠ bq → M'.get id = some k := by
  have hw2 : 1 ≤ IntKind.wrap .i64 (N + (2 : Int)) ∧ IntKind.wrap .i64 (N + (2 : Int)) ≤ 9 := by rw [wr_small (by omega) (by omega)]; omega
  obtain ⟨w1, N2, M3, p4, l5, e6, E7, hM8, Q9, G10⟩ := call_t (P := Try.prog) (GL := []) (f := 25) hM (con25 v (IntKind.wrap .i64 (N + (2 : Int))) (by simp <;> omega))
  have g11 := E7.old gp
  have g12 := E7.old gq
  have ew1 : w1 = (i64 (modI v (IntKind.wrap .i64 (N + (2 : Int))))) := (Option.some.inj Q9.1).symm
  subst ew1
  have nxM3 : M3.next = M.next := by rw [← e6]; exact Q9.2
  have X13 := X0.trans E7
  obtain ⟨b14, M15, eb16, em17, g18, E19, hM20⟩ := new_t hM8 ⟨[(i64 0), (i64 (IntKind.wrap .i64 ((modI v (IntKind.wrap .i64 (N + (2 : Int)))) - (1 : Int))))], 49, 2, 0, true⟩
  have nb14 : M0.next ≤ b14 := by rw [← eb16]; exact X13.next
  have dpb14 : p ≠ b14 := by have := Mem.lt_of_get g11; omega
  have dbqb14 : bq ≠ b14 := by have := Mem.lt_of_get g12; omega
  have g21 := E19.old g11
  have g22 := E19.old g12
  have X23 := X13.trans E19
  obtain ⟨b26, M27, eb28, em29, g30, X25, hM31, kp24⟩ := keep_t X23 nbq hM20 ⟨cq, 49, 2, kq * 2, false⟩ ⟨cq ++ [(i64 0), (i64 (IntKind.wrap .i64 ((modI v (IntKind.wrap .i64 (N + (2 : Int)))) - (1 : Int))))], 49, 2, kq * 2, true⟩
  have nb26 : M0.next ≤ b26 := by rw [← eb28]; exact X23.next
  have dpb26 : p ≠ b26 := by have := Mem.lt_of_get g21; omega
  have dbqb26 : bq ≠ b26 := by have := Mem.lt_of_get g22; omega
  have db14b26 : b14 ≠ b26 := by have := Mem.lt_of_get g18; omega
  have g32 := (kp24 _ dpbq (Mem.lt_of_get g21)).trans g21
  have g33 := (kp24 _ (Ne.symm dbqb14) (Mem.lt_of_get g18)).trans g18
  obtain ⟨M34, q35, g36, kp37, X38, hM39, nx40⟩ := store_t (o := 4) (v := (sli b26 0 (kq + 1) (kq + 1))) (new := [(i64 N), (i64 st), (i64 en), (.slice sa sn sc), (sli b26 0 (kq + 1) (kq + 1))]) X25 np hM31 dS26 g32 rfl rfl (Nat.zero_le _) (Nat.le_of_ble_eq_true rfl) rfl
  replace g36 : M34.get p = some ⟨[(i64 N), (i64 st), (i64 en), (.slice sa sn sc), (sli b26 0 (kq + 1) (kq + 1))], 28, 5, 0, true⟩ := g36
  have g41 := (kp37 _ (Ne.symm dpb14)).trans g33
  have g42 := (kp37 _ (Ne.symm dpb26)).trans g30
  have hraw := s5_6s_raw p N st en v sa sn sc bq kq wq cq M M3 b14 M15 b26 M27 M34
  have rw0 : Mem.mk M.blks M.next (hides 0 [⟨1, 1, M.next, M.next⟩, ⟨0, 0, M.next, M.next⟩] ++ M.hide) M.log = M := by rw [show hides 0 [⟨1, 1, M.next, M.next⟩, ⟨0, 0, M.next, M.next⟩] = [] from by simp [hides, Nat.beq_refl, show Nat.beq 1 0 = false from rfl]]; rfl
  have rw1 : Mem.mk M.blks M.next (hides 0 [⟨2, 0, M.next, M.next⟩, ⟨1, 1, M.next, M.next⟩, ⟨0, 0, M.next, M.next⟩] ++ M.hide) M.log = M := by rw [show hides 0 [⟨2, 0, M.next, M.next⟩, ⟨1, 1, M.next, M.next⟩, ⟨0, 0, M.next, M.next⟩] = [] from by simp [hides, Nat.beq_refl, show Nat.beq 1 0 = false from rfl]]; rfl
  have rw2 : Mem.mk M.blks M.next (hides 8 [⟨3, 0, M.next, M.next⟩, ⟨2, 0, M.next, M.next⟩, ⟨1, 1, M.next, M.next⟩, ⟨0, 0, M.next, M.next⟩] ++ M.hide) M.log = M := by rw [show hides 8 [⟨3, 0, M.next, M.next⟩, ⟨2, 0, M.next, M.next⟩, ⟨1, 1, M.next, M.next⟩, ⟨0, 0, M.next, M.next⟩] = [] from by simp [hides, Nat.beq_refl, show Nat.beq 1 0 = false from rfl]]; rfl
  have rw3 : Mem.mk M.blks M.next (hides 24 [⟨4, 1, M.next, M.next⟩, ⟨3, 0, M.next, M.next⟩, ⟨2, 0, M.next, M.next⟩, ⟨1, 1, M.next, M.next⟩, ⟨0, 0, M.next, M.next⟩] ++ M.hide) M.log = M := by rw [show hides 24 [⟨4, 1, M.next, M.next⟩, ⟨3, 0, M.next, M.next⟩, ⟨2, 0, M.next, M.next⟩, ⟨1, 1, M.next, M.next⟩, ⟨0, 0, M.next, M.next⟩] = [] from by simp [hides, Nat.beq_refl, show Nat.beq 1 0 = false from rfl, show Nat.testBit 24 4 = true from rfl]]; rfl
  have rw4 : Mem.mk M.blks M.next (hides 60 [⟨5, 0, M.next, M.next⟩, ⟨4, 1, M.next, M.next⟩, ⟨3, 0, M.next, M.next⟩, ⟨2, 0, M.next, M.next⟩, ⟨1, 1, M.next, M.next⟩, ⟨0, 0, M.next, M.next⟩] ++ M.hide) M.log = M := by rw [show hides 60 [⟨5, 0, M.next, M.next⟩, ⟨4, 1, M.next, M.next⟩, ⟨3, 0, M.next, M.next⟩, ⟨2, 0, M.next, M.next⟩, ⟨1, 1, M.next, M.next⟩, ⟨0, 0, M.next, M.next⟩] = [] from by simp [hides, Nat.beq_refl, show Nat.beq 1 0 = false from rfl, show Nat.testBit 60 4 = true from rfl]]; rfl
  have rw5 : Mem.mk M3.blks M3.next M.hide M3.log = M3 := by rw [(show M.hide = M3.hide from ((X0).hide.trans (X13).hide.symm))]
  have rw6 : Mem.mk M3.blks M3.next (hides 124 [⟨6, 1, M.next, M3.next⟩, ⟨5, 0, M.next, M.next⟩, ⟨4, 1, M.next, M.next⟩, ⟨3, 0, M.next, M.next⟩, ⟨2, 0, M.next, M.next⟩, ⟨1, 1, M.next, M.next⟩, ⟨0, 0, M.next, M.next⟩] ++ M.hide) M3.log = M3 := by rw [show hides 124 [⟨6, 1, M.next, M3.next⟩, ⟨5, 0, M.next, M.next⟩, ⟨4, 1, M.next, M.next⟩, ⟨3, 0, M.next, M.next⟩, ⟨2, 0, M.next, M.next⟩, ⟨1, 1, M.next, M.next⟩, ⟨0, 0, M.next, M.next⟩] = [] from by simp [hides, Nat.beq_refl, nxM3, show Nat.beq 1 0 = false from rfl, show Nat.testBit 124 4 = true from rfl, show Nat.testBit 124 6 = true from rfl], (show M.hide = M3.hide from ((X0).hide.trans (X13).hide.symm))]; rfl
  have rw7 : Mem.mk M3.blks M3.next (hides 252 [⟨7, 0, M3.next, M3.next⟩, ⟨6, 1, M.next, M3.next⟩, ⟨5, 0, M.next, M.next⟩, ⟨4, 1, M.next, M.next⟩, ⟨3, 0, M.next, M.next⟩, ⟨2, 0, M.next, M.next⟩, ⟨1, 1, M.next, M.next⟩, ⟨0, 0, M.next, M.next⟩] ++ M.hide) M3.log = M3 := by rw [show hides 252 [⟨7, 0, M3.next, M3.next⟩, ⟨6, 1, M.next, M3.next⟩, ⟨5, 0, M.next, M.next⟩, ⟨4, 1, M.next, M.next⟩, ⟨3, 0, M.next, M.next⟩, ⟨2, 0, M.next, M.next⟩, ⟨1, 1, M.next, M.next⟩, ⟨0, 0, M.next, M.next⟩] = [] from by simp [hides, Nat.beq_refl, nxM3, show Nat.beq 1 0 = false from rfl, show Nat.testBit 252 4 = true from rfl, show Nat.testBit 252 6 = true from rfl], (show M.hide = M3.hide from ((X0).hide.trans (X13).hide.symm))]; rfl
  have rw8 : Mem.mk M3.blks M3.next (hides 508 [⟨8, 0, M3.next, M3.next⟩, ⟨7, 0, M3.next, M3.next⟩, ⟨6, 1, M.next, M3.next⟩, ⟨5, 0, M.next, M.next⟩, ⟨4, 1, M.next, M.next⟩, ⟨3, 0, M.next, M.next⟩, ⟨2, 0, M.next, M.next⟩, ⟨1, 1, M.next, M.next⟩, ⟨0, 0, M.next, M.next⟩] ++ M.hide) M3.log = M3 := by rw [show hides 508 [⟨8, 0, M3.next, M3.next⟩, ⟨7, 0, M3.next, M3.next⟩, ⟨6, 1, M.next, M3.next⟩, ⟨5, 0, M.next, M.next⟩, ⟨4, 1, M.next, M.next⟩, ⟨3, 0, M.next, M.next⟩, ⟨2, 0, M.next, M.next⟩, ⟨1, 1, M.next, M.next⟩, ⟨0, 0, M.next, M.next⟩] = [] from by simp [hides, Nat.beq_refl, nxM3, show Nat.beq 1 0 = false from rfl, show Nat.testBit 508 4 = true from rfl, show Nat.testBit 508 6 = true from rfl], (show M.hide = M3.hide from ((X0).hide.trans (X13).hide.symm))]; rfl
  have rw9 : Mem.mk M15.blks M15.next M.hide M15.log = M15 := by rw [(show M.hide = M15.hide from ((X0).hide.trans (X23).hide.symm))]
  have rw10 : Mem.mk M27.blks M27.next M.hide M27.log = M27 := by rw [(show M.hide = M27.hide from ((X0).hide.trans (X25).hide.symm))]
  have rw11 : Mem.mk M34.blks M34.next M.hide M34.log = M34 := by rw [(show M.hide = M34.hide from ((X0).hide.trans (X38).hide.symm))]
  try rw [rw0] at hraw
  try rw [rw1] at hraw
  try rw [rw2] at hraw
  try rw [rw3] at hraw
  try rw [rw4] at hraw
  try rw [rw5] at hraw
  try rw [rw6] at hraw
  try rw [rw7] at hraw
  try rw [rw8] at hraw
  try rw [rw9] at hraw
  try rw [rw10] at hraw
  try rw [rw11] at hraw
  have hkp : ∀ id k, M.get id = some k → id ≠ p → id ≠ bq → M34.get id = some k := fun id k g hp hq => by
    have g := E7.old g
    have g := E19.old g
    have g := (kp24 id hq (Mem.lt_of_get g)).trans g
    have g := ((fun id h _ => kp37 id h) id hp (Mem.lt_of_get g)).trans g
    exact g
  obtain ⟨T1, h1, h2⟩ := Rd.told noNumP mixedP (fun B => specsB_ok (k := []) (hS5_25 B) (fun p hp => by cases hp)) (fun _ _ => rfl) hraw (hk (lC dC26 gp rfl) (hk (lC dC3 gp rfl) (hk (q_call rfl p4 l5 e6) (hk (q_eq (by rw [← eb16, ← em17]; kernel_rfl) Nat.one_ne_zero) (hk (q_app (by rw [← eb28, ← em29]; exact append_keep (w := 2) (y := 16) (by kernel_rfl) (by kernel_rfl) (by kernel_rfl) (by kernel_rfl) (by decide) (by decide) hkq hkq0 g18 rfl rfl rfl g22 hcq hwq) (Nat.succ_ne_zero _)) (hk (q_st q35) hn))))))
  exact ⟨T1, M34, b26, h1, h2, X38, hM39, g36, g42, hkp⟩
end Go.Proofs.Ytnpalannikpfoaa
