/-
  What is proved: NfaChecks: whether any machine of many ways is allowed is what the document's own reading says; one that is made of numbers is; so is one with one thing of it turned. For every argument.
-/
import Derived.Test.YtnpalannikpfoaaGNA6
open Go Go.Am Go.Proofs
namespace Go.Proofs.Ytnpalannikpfoaa
set_option maxRecDepth 100000
theorem flat_of_blk {w : Nat} {M : Mem} {b c : Nat} {blk : ABlk} {l : List (List Int)} (hg : M.get b = some blk) (hcs : blk.cs = (irows l).flatten) (hesz : blk.esz = w) (hw : ∀ r ∈ l, r.length = w) (hl : l.length ≤ 9223372036854775807) {n : Nat} (hn : n = l.length) :
    FlatAt w M (.slice (some ⟨b, 0, none⟩) n c) l := by
  subst hn
  exact ⟨.inr ⟨b, 0, c, blk, [], [], rfl, hg, by simp [hcs], rfl, fun r hr => by rw [hesz]; exact irows_wide hw r hr⟩, hw, hl⟩
theorem RowN.flat' {M0 M M' : Mem} {p el w : Nat} {S : Value} {l : List (List Int)} {b : Nat} (h : RowN M0 M el w S l b) (hw : ∀ r ∈ l, r.length = w) (hl : l.length ≤ 14) (hd : l ≠ [] → p ≠ b) (hk : ∀ id k, M.get id = some k → id ≠ p → M'.get id = some k) : FlatAt w M' S l := by
  rcases h with ⟨rfl, rfl⟩ | ⟨rfl, h2, h3, ws, h6, h7⟩
  · exact ⟨.inl ⟨_, rfl, rfl⟩, hw, by omega⟩
  · exact flat_of_blk (hk _ _ h7 (Ne.symm (hd (by intro x; simp [x] at h2)))) rfl rfl hw (by omega) rfl
theorem RowN.flat2 {M0 M M' : Mem} {p q el w : Nat} {S : Value} {l : List (List Int)} {b : Nat} (h : RowN M0 M el w S l b) (hw : ∀ r ∈ l, r.length = w) (hl : l.length ≤ 14) (hd : l ≠ [] → p ≠ b) (hq : l ≠ [] → q ≠ b) (hk : ∀ id k, M.get id = some k → id ≠ p → id ≠ q → M'.get id = some k) : FlatAt w M' S l := by
  rcases h with ⟨rfl, rfl⟩ | ⟨rfl, h2, h3, ws, h6, h7⟩
  · exact ⟨.inl ⟨_, rfl, rfl⟩, hw, by omega⟩
  · have hne : l ≠ [] := by intro x; simp [x] at h2
    exact flat_of_blk (hk _ _ h7 (Ne.symm (hd hne)) (Ne.symm (hq hne))) rfl rfl hw (by omega) rfl
theorem RowN.shape {M0 M : Mem} {el w : Nat} {S : Value} {l : List (List Int)} {b : Nat} (h : RowN M0 M el w S l b) : ∃ a n c, S = .slice a n c := by
  rcases h with ⟨_, h⟩ | ⟨h, _⟩
  · exact ⟨_, _, _, h⟩
  · exact ⟨_, _, _, h⟩
theorem wide1 {w : Nat} {r : List Int} (h : r.length = w) : ∀ x ∈ [r], x.length = w := fun x hx => by simp at hx; rw [hx]; exact h
def SwOut (M0 M : Mem) (p : Nat) (v : Int) (j : Nat) : Prop :=
  ∃ T1 M' n' st' en' S' F' l1' l2', Rd Try.prog [] (.block 0 (q5.blkAt 0)) Try.f5.ntmps (fr [(5, (i64 v)), (13, (pt p 0)), (36, (i64 ((j : Nat) : Int)))]) M .normal T1 M' ∧ [13].map T1.get = [some (pt p 0)] ∧ Ext M0 M' ∧ MemOk M' ∧
    M'.get p = some ⟨[i64 n', i64 st', i64 en', S', F'], 28, 5, 0, true⟩ ∧ FlatAt 3 M' S' l1' ∧ FlatAt 2 M' F' l2'
theorem switch5 (j : Nat) (hj : j < 7) {M0 Mx M : Mem} (hM : MemOk M) (X0 : Ext M0 M) (hx : M0.next ≤ Mx.next) (p : Nat) (N st en v : Int) (np : M0.next ≤ p) (hN : 1 ≤ N ∧ N ≤ 7) {S F : Value} {l1 l2 : List (List Int)} {bs bf : Nat}
    (gp : M.get p = some ⟨[i64 N, i64 st, i64 en, S, F], 28, 5, 0, true⟩) (hS : RowN Mx M 48 3 S l1 bs) (hF : RowN Mx M 49 2 F l2 bf) (hd : l1 ≠ [] → l2 ≠ [] → bs ≠ bf) (hps : l1 ≠ [] → p ≠ bs) (hpf : l2 ≠ [] → p ≠ bf)
    (w1 : ∀ r ∈ l1, r.length = 3) (w2 : ∀ r ∈ l2, r.length = 2) (k1 : l1.length ≤ 14) (k2 : l2.length ≤ 14) : SwOut M0 M p v j := by
  obtain ⟨sa, sn, sc, eS⟩ := hS.shape
  obtain ⟨fa, fn, fc, eF⟩ := hF.shape
  have hS0 := hS
  have hF0 := hF
  match j, hj with
  | 0, _ =>
    subst eS eF
    obtain ⟨T1, M', h1, h2, h3, h4, h5, h6⟩ := s5_0 p N st en v sa sn sc fa fn fc hM X0 np hN gp
    exact ⟨T1, M', _, _, _, _, _, l1, l2, h1, h2, h3, h4, h5, hS.flat' w1 k1 hps h6, hF.flat' w2 k2 hpf h6⟩
  | 1, _ =>
    subst eS eF
    obtain ⟨T1, M', h1, h2, h3, h4, h5, h6⟩ := s5_1 p N st en v sa sn sc fa fn fc hM X0 np hN gp
    exact ⟨T1, M', _, _, _, _, _, l1, l2, h1, h2, h3, h4, h5, hS.flat' w1 k1 hps h6, hF.flat' w2 k2 hpf h6⟩
  | 2, _ =>
    subst eS eF
    have hm := modI_range (x := v) (n := 5) (by decide)
    have hc : modI v 5 = 0 ∨ modI v 5 = 1 ∨ modI v 5 = 2 ∨ modI v 5 = 3 ∨ modI v 5 = 4 := by omega
    rcases hc with hc | hc | hc | hc | hc
    · obtain ⟨T1, M', h1, h2, h3, h4, h5, h6⟩ := s5_2_0 p N st en v sa sn sc fa fn fc hM X0 np hN gp hc
      exact ⟨T1, M', _, _, _, _, _, l1, l2, h1, h2, h3, h4, h5, hS.flat' w1 k1 hps h6, hF.flat' w2 k2 hpf h6⟩
    · obtain ⟨T1, M', h1, h2, h3, h4, h5, h6⟩ := s5_2_1 p N st en v sa sn sc fa fn fc hM X0 np hN gp hc
      exact ⟨T1, M', _, _, _, _, _, l1, l2, h1, h2, h3, h4, h5, hS.flat' w1 k1 hps h6, hF.flat' w2 k2 hpf h6⟩
    · obtain ⟨T1, M', h1, h2, h3, h4, h5, h6⟩ := s5_2_2 p N st en v sa sn sc fa fn fc hM X0 np hN gp hc
      exact ⟨T1, M', _, _, _, _, _, l1, l2, h1, h2, h3, h4, h5, hS.flat' w1 k1 hps h6, hF.flat' w2 k2 hpf h6⟩
    · obtain ⟨T1, M', h1, h2, h3, h4, h5, h6⟩ := s5_2_3 p N st en v sa sn sc fa fn fc hM X0 np hN gp hc
      exact ⟨T1, M', _, _, _, _, _, l1, l2, h1, h2, h3, h4, h5, hS.flat' w1 k1 hps h6, hF.flat' w2 k2 hpf h6⟩
    · obtain ⟨T1, M', h1, h2, h3, h4, h5, h6⟩ := s5_2_4 p N st en v sa sn sc fa fn fc hM X0 np hN gp hc
      exact ⟨T1, M', _, _, _, _, _, l1, l2, h1, h2, h3, h4, h5, hS.flat' w1 k1 hps h6, hF.flat' w2 k2 hpf h6⟩
  | 3, _ =>
    subst eF
    rcases hS with ⟨rfl, rfl⟩ | ⟨rfl, s2, s3, ws, s6, s7⟩
    · obtain ⟨T1, M', b, h1, h2, h3, h4, h5, h7, h6⟩ := s5_3n p N st en v fa fn fc hM X0 np hN gp
      exact ⟨T1, M', _, _, _, _, _, [[0, _, 1]], l2, h1, h2, h3, h4, h5, flat_of_blk h7 rfl rfl (wide1 rfl) (by simp) rfl, hF.flat' w2 k2 hpf h6⟩
    · have hne : l1 ≠ [] := by intro x; simp [x] at s2
      obtain ⟨T1, M', b, h1, h2, h3, h4, h5, h7, h6⟩ := s5_3s p N st en v fa fn fc bs l1.length ws _ hM X0 np hN gp (by omega) s7 (hps hne) (by omega) s2 (irows_flen w1) s6
      exact ⟨T1, M', _, _, _, _, _, l1 ++ [[0, _, 1]], l2, h1, h2, h3, h4, h5, flat_of_blk h7 (by rw [irows_app]; rfl) rfl (wide_app w1 rfl) (by simp; omega) (by simp), hF.flat2 w2 k2 hpf (fun h => hd hne h) h6⟩
  | 4, _ =>
    subst eF
    rcases hS with ⟨rfl, rfl⟩ | ⟨rfl, s2, s3, ws, s6, s7⟩
    · obtain ⟨T1, M', b, h1, h2, h3, h4, h5, h7, h6⟩ := s5_4n p N st en v fa fn fc hM X0 np hN gp
      exact ⟨T1, M', _, _, _, _, _, [[0, 0, _]], l2, h1, h2, h3, h4, h5, flat_of_blk h7 rfl rfl (wide1 rfl) (by simp) rfl, hF.flat' w2 k2 hpf h6⟩
    · have hne : l1 ≠ [] := by intro x; simp [x] at s2
      obtain ⟨T1, M', b, h1, h2, h3, h4, h5, h7, h6⟩ := s5_4s p N st en v fa fn fc bs l1.length ws _ hM X0 np hN gp (by omega) s7 (hps hne) (by omega) s2 (irows_flen w1) s6
      exact ⟨T1, M', _, _, _, _, _, l1 ++ [[0, 0, _]], l2, h1, h2, h3, h4, h5, flat_of_blk h7 (by rw [irows_app]; rfl) rfl (wide_app w1 rfl) (by simp; omega) (by simp), hF.flat2 w2 k2 hpf (fun h => hd hne h) h6⟩
  | 5, _ =>
    subst eS
    rcases hF with ⟨rfl, rfl⟩ | ⟨rfl, s2, s3, ws, s6, s7⟩
    · obtain ⟨T1, M', b, h1, h2, h3, h4, h5, h7, h6⟩ := s5_5n p N st en v sa sn sc hM X0 np hN gp
      exact ⟨T1, M', _, _, _, _, _, l1, [[_, 0]], h1, h2, h3, h4, h5, hS.flat' w1 k1 hps h6, flat_of_blk h7 rfl rfl (wide1 rfl) (by simp) rfl⟩
    · have hne : l2 ≠ [] := by intro x; simp [x] at s2
      obtain ⟨T1, M', b, h1, h2, h3, h4, h5, h7, h6⟩ := s5_5s p N st en v sa sn sc bf l2.length ws _ hM X0 np hN gp (by omega) s7 (hpf hne) (by omega) s2 (irows_flen w2) s6
      exact ⟨T1, M', _, _, _, _, _, l1, l2 ++ [[_, 0]], h1, h2, h3, h4, h5, hS.flat2 w1 k1 hps (fun h => Ne.symm (hd h hne)) h6, flat_of_blk h7 (by rw [irows_app]; rfl) rfl (wide_app w2 rfl) (by simp; omega) (by simp)⟩
  | 6, _ =>
    subst eS
    rcases hF with ⟨rfl, rfl⟩ | ⟨rfl, s2, s3, ws, s6, s7⟩
    · obtain ⟨T1, M', b, h1, h2, h3, h4, h5, h7, h6⟩ := s5_6n p N st en v sa sn sc hM X0 np hN gp
      exact ⟨T1, M', _, _, _, _, _, l1, [[0, _]], h1, h2, h3, h4, h5, hS.flat' w1 k1 hps h6, flat_of_blk h7 rfl rfl (wide1 rfl) (by simp) rfl⟩
    · have hne : l2 ≠ [] := by intro x; simp [x] at s2
      obtain ⟨T1, M', b, h1, h2, h3, h4, h5, h7, h6⟩ := s5_6s p N st en v sa sn sc bf l2.length ws _ hM X0 np hN gp (by omega) s7 (hpf hne) (by omega) s2 (irows_flen w2) s6
      exact ⟨T1, M', _, _, _, _, _, l1, l2 ++ [[0, _]], h1, h2, h3, h4, h5, hS.flat2 w1 k1 hps (fun h => Ne.symm (hd h hne)) h6, flat_of_blk h7 (by rw [irows_app]; rfl) rfl (wide_app w2 rfl) (by simp; omega) (by simp)⟩
  | n + 7, h => exact absurd h (by omega)
end Go.Proofs.Ytnpalannikpfoaa

open Go Go.Am Go.Proofs
namespace Go.Proofs.Ytnpalannikpfoaa
set_option maxRecDepth 100000
theorem RowN.all {M0 M M' : Mem} {el w : Nat} {S : Value} {l : List (List Int)} {b : Nat} (h : RowN M0 M el w S l b) (hk : ∀ id k, M.get id = some k → M'.get id = some k) : RowN M0 M' el w S l b := by
  rcases h with h | ⟨h1, h2, h3, ws, h6, h7⟩
  · exact .inl h
  · exact .inr ⟨h1, h2, h3, ws, h6, hk _ _ h7⟩
theorem RowN.but {M0 M M' : Mem} {p el w : Nat} {S : Value} {l : List (List Int)} {b : Nat} (h : RowN M0 M el w S l b) (hd : l ≠ [] → p ≠ b) (hk : ∀ id k, M.get id = some k → id ≠ p → M'.get id = some k) : RowN M0 M' el w S l b := by
  rcases h with h | ⟨h1, h2, h3, ws, h6, h7⟩
  · exact .inl h
  · exact .inr ⟨h1, h2, h3, ws, h6, hk _ _ h7 (Ne.symm (hd (by intro x; simp [x] at h2)))⟩
theorem RowN.ne {M0 M : Mem} {p el w : Nat} {S : Value} {l : List (List Int)} {b : Nat} (h : RowN M0 M el w S l b) (hp : M.next = p) : l ≠ [] → p ≠ b := fun hl => by
  rcases h with ⟨h, _⟩ | ⟨_, _, _, ws, _, h7⟩
  · exact absurd h hl
  · have := Mem.lt_of_get h7; omega
def g12 : List Value → Option Value
  | [] => some (.bool true)
  | _ => none
theorem con12 {M : Mem} : ∃ v M', Con Try.prog [] 12 (Fl g12) [] M v M' := ⟨.bool true, M, Ev.of_spec okKnown rfl, Ext.refl M, rfl⟩
theorem rK5 : Try.f5.results = #[.tmp 12] := by kernel_rfl
theorem hS5_12_18_22_23_24_25 (B : Nat) : ∀ p ∈ ([(12, pick (Con Try.prog [] 12 (Fl g12))), (18, pick (Con Try.prog [] 18 Qchk)), (22, pick (Con Try.prog [] 22 Qfew)), (23, pick (Con Try.prog [] 23 Qmk)), (24, pick (Con Try.prog [] 24 Qchk)), (25, pick (Con Try.prog [] 25 Q25))] : List (FuncId × (List Value → Mem → Option (Value × Mem)))), SpecOk Try.prog [] B p.1 p.2 := (fun p hp => by simp only [List.mem_cons, List.not_mem_nil, or_false] at hp; rcases hp with rfl | rfl | rfl | rfl | rfl | rfl <;> first | exact Con.ok _)
theorem w5_0_raw (n st en : Int) (a1 : Option Addr) (c1 : Nat) (a2 : Option Addr) (c2 : Nat) (l1 l2 : List (List Int)) (x : Int) (a : Option Addr) (c : Nat) (ns : List Int) (y w v : Int) (j : Nat) (M : Mem) (b1 : Nat) (M2 : Mem) (M11 : Mem) (M23 : Mem) (y33sa : Option Addr) (y33sn : Nat) (y33sc : Nat) (y33fa : Option Addr) (y33fn : Nat) (y33fc : Nat) (M36 : Mem) (b46 : Nat) (M47 : Mem) (M55 : Mem) (M72 : Mem) (M89 : Mem) (M107 : Mem) (M131 : Mem) (M142 : Mem) (sn_ : Int) (sst : Int) (sen : Int) (sSv : Value) (sFv : Value) (sl1 : List (List Int)) (sl2 : List (List Int)) (M158 : Mem) (M174 : Mem) : oT Try.prog [0] 60 Try.f5 q5 [(.agg ⟨[(i64 n), (i64 st), (i64 en), (.slice a1 l1.length c1), (.slice a2 l2.length c2)]⟩), i64 x, (.slice a ns.length c), i64 y, i64 w, i64 v] M [ttV 1 (pt b1 0) M2, ttV 5 (.bool true) M11, ttL 10 (.agg ⟨[(i64 n), (i64 st), (i64 en), (.slice a1 l1.length c1), (.slice a2 l2.length c2)]⟩), ttV 12 (.bool (fewB l1 l2)) M23, ttF 15, ttV 27 (.agg ⟨[(i64 (nOf x)), (i64 (modI y (nOf x))), (i64 (modI (IntKind.wrap .i64 (y.tdiv (7 : Int))) (nOf x))), (.slice y33sa y33sn y33sc), (.slice y33fa y33fn y33fc)]⟩) M36, ttV 29 (pt b46 0) M47, ttS 31 M55, ttL 33 (.agg ⟨[(i64 n), (i64 st), (i64 en), (.slice a1 l1.length c1), (.slice a2 l2.length c2)]⟩), ttV 35 (.bool (chkB n st en l1 l2)) M72, ttL 37 (.agg ⟨[(i64 n), (i64 st), (i64 en), (.slice a1 l1.length c1), (.slice a2 l2.length c2)]⟩), ttV 39 (.bool (chkB n st en l1 l2)) M89, ttF 44, ttL 45 (.agg ⟨[(i64 (nOf x)), (i64 (modI y (nOf x))), (i64 (modI (IntKind.wrap .i64 (y.tdiv (7 : Int))) (nOf x))), (.slice y33sa y33sn y33sc), (.slice y33fa y33fn y33fc)]⟩), ttF 46, ttV 47 (.bool true) M107, ttF 48, ttF 51, ttV 56 (i64 (((j : Nat) : Int))) M131, .blk 57 [5, 13, 36] .normal (fr [(13, (pt b46 0))]) M142, ttL 59 (.agg ⟨[(i64 sn_), (i64 sst), (i64 sen), sSv, sFv]⟩), ttV 61 (.bool (chkB sn_ sst sen sl1 sl2)) M158, ttL 63 (.agg ⟨[(i64 sn_), (i64 sst), (i64 sen), sSv, sFv]⟩), ttV 65 (.bool (chkB sn_ sst sen sl1 sl2)) M174] 12 = some (.ret, some (.bool ((chkB sn_ sst sen sl1 sl2) == (chkB sn_ sst sen sl1 sl2))), (Mem.mk M174.blks M174.next M142.hide (M174.log ++ M142.log)), [.eq (abox Try.prog 28 (.agg ⟨[(i64 n), (i64 st), (i64 en), (.slice a1 l1.length c1), (.slice a2 l2.length c2)]⟩) M) (1, .val (pt b1 0), M2), qC 12 [] M2 (.bool true) M11, qL 28 b1 0 M11 (.agg ⟨[(i64 n), (i64 st), (i64 en), (.slice a1 l1.length c1), (.slice a2 l2.length c2)]⟩), qC 22 [(.agg ⟨[(i64 n), (i64 st), (i64 en), (.slice a1 l1.length c1), (.slice a2 l2.length c2)]⟩)] M11 (.bool (fewB l1 l2)) M23, qF (!(fewB l1 l2)), qC 23 [(i64 x), (.slice a ns.length c), (i64 y), (i64 (IntKind.wrap .i64 (y.tdiv (7 : Int))))] M23 (.agg ⟨[(i64 (nOf x)), (i64 (modI y (nOf x))), (i64 (modI (IntKind.wrap .i64 (y.tdiv (7 : Int))) (nOf x))), (.slice y33sa y33sn y33sc), (.slice y33fa y33fn y33fc)]⟩) M36, .eq (aalloc Try.prog 28 M36) (1, .val (pt b46 0), M47), qS 28 b46 0 (.agg ⟨[(i64 (nOf x)), (i64 (modI y (nOf x))), (i64 (modI (IntKind.wrap .i64 (y.tdiv (7 : Int))) (nOf x))), (.slice y33sa y33sn y33sc), (.slice y33fa y33fn y33fc)]⟩) M47 M55, qL 28 b1 0 (Mem.mk M55.blks M55.next M55.hide []) (.agg ⟨[(i64 n), (i64 st), (i64 en), (.slice a1 l1.length c1), (.slice a2 l2.length c2)]⟩), qC 18 [(.agg ⟨[(i64 n), (i64 st), (i64 en), (.slice a1 l1.length c1), (.slice a2 l2.length c2)]⟩)] (Mem.mk M55.blks M55.next M55.hide []) (.bool (chkB n st en l1 l2)) M72, qL 28 b1 0 (Mem.mk M72.blks M72.next (hides 0 [⟨1, 1, M55.next, M72.next⟩, ⟨0, 1, M55.next, M55.next⟩] ++ M55.hide) M72.log) (.agg ⟨[(i64 n), (i64 st), (i64 en), (.slice a1 l1.length c1), (.slice a2 l2.length c2)]⟩), qT (Nat.blt b1 M55.next), qC 24 [(.agg ⟨[(i64 n), (i64 st), (i64 en), (.slice a1 l1.length c1), (.slice a2 l2.length c2)]⟩)] (Mem.mk M72.blks M72.next M55.hide M72.log) (.bool (chkB n st en l1 l2)) M89, qF (!((chkB n st en l1 l2) == (chkB n st en l1 l2))), qL 28 b46 0 (Mem.mk M89.blks M89.next M55.hide M89.log) (.agg ⟨[(i64 (nOf x)), (i64 (modI y (nOf x))), (i64 (modI (IntKind.wrap .i64 (y.tdiv (7 : Int))) (nOf x))), (.slice y33sa y33sn y33sc), (.slice y33fa y33fn y33fc)]⟩), qF (!((chkB n st en l1 l2) == (chkB n st en l1 l2))), qC 18 [(.agg ⟨[(i64 (nOf x)), (i64 (modI y (nOf x))), (i64 (modI (IntKind.wrap .i64 (y.tdiv (7 : Int))) (nOf x))), (.slice y33sa y33sn y33sc), (.slice y33fa y33fn y33fc)]⟩)] (Mem.mk M89.blks M89.next M55.hide M89.log) (.bool true) M107, qF (!((chkB n st en l1 l2) == (chkB n st en l1 l2))), qF (!((chkB n st en l1 l2) == (chkB n st en l1 l2))), qT (apartN [b1] M107.log), qC 25 [(i64 w), (i64 7)] (Mem.mk M107.blks M107.next M55.hide (M107.log ++ M55.log)) (i64 (((j : Nat) : Int))) M131, .blk 0 (q5.blkAt 0) Try.f5.ntmps [5, 13, 36] [some (i64 v), some (pt b46 0), some (i64 (((j : Nat) : Int)))] M131 .normal (fr [(13, (pt b46 0))]) M142, qL 28 b46 0 (Mem.mk M142.blks M142.next M142.hide []) (.agg ⟨[(i64 sn_), (i64 sst), (i64 sen), sSv, sFv]⟩), qC 18 [(.agg ⟨[(i64 sn_), (i64 sst), (i64 sen), sSv, sFv]⟩)] (Mem.mk M142.blks M142.next M142.hide []) (.bool (chkB sn_ sst sen sl1 sl2)) M158, qL 28 b46 0 (Mem.mk M158.blks M158.next (hides 0 [⟨1, 1, M142.next, M158.next⟩, ⟨0, 1, M142.next, M142.next⟩] ++ M142.hide) M158.log) (.agg ⟨[(i64 sn_), (i64 sst), (i64 sen), sSv, sFv]⟩), qT (Nat.blt b46 M142.next), qC 24 [(.agg ⟨[(i64 sn_), (i64 sst), (i64 sen), sSv, sFv]⟩)] (Mem.mk M158.blks M158.next M142.hide M158.log) (.bool (chkB sn_ sst sen sl1 sl2)) M174, qT (apartN [b46] M174.log)]) := by kernel_rfl
theorem w5_0 (n st en : Int) (a1 : Option Addr) (c1 : Nat) (a2 : Option Addr) (c2 : Nat) (l1 l2 : List (List Int)) (x : Int) (a : Option Addr) (c : Nat) (ns : List Int) (y w v : Int) (j : Nat) {M : Mem} (hM : MemOk M) (hr : NfaAt M (.agg ⟨[(i64 n), (i64 st), (i64 en), (.slice a1 l1.length c1), (.slice a2 l2.length c2)]⟩) n st en l1 l2) (hs : FlatAt 1 M (.slice a ns.length c) (ns.map ([·]))) (hj7 : j < 7) (hj : modI w 7 = ((j : Nat) : Int)) (cc0 : (fewB l1 l2) = true) : ∃ M', Ev Try.prog [] 5 [(.agg ⟨[(i64 n), (i64 st), (i64 en), (.slice a1 l1.length c1), (.slice a2 l2.length c2)]⟩), i64 x, (.slice a ns.length c), i64 y, i64 w, i64 v] M (.bool true) M' := by
  have hns14 : (ns.take 14).length ≤ 14 := by simp; omega
  have hk14 := Nat.le_trans (stepsOf_len (nOf x) (ns.take 14)) hns14
  have hk24 := Nat.le_trans (freesOf_len (nOf x) (ns.take 14)) hns14
  have hk1 : (stepsOf (nOf x) (ns.take 14)).length ≤ 9223372036854775807 := by omega
  have hk2 : (freesOf (nOf x) (ns.take 14)).length ≤ 9223372036854775807 := by omega
  obtain ⟨b1, M2, eb3, em4, g5, E6, hM7⟩ := new_t hM ⟨[(i64 n), (i64 st), (i64 en), (.slice a1 l1.length c1), (.slice a2 l2.length c2)], 28, 5, 0, true⟩
  have nb1 : M.next ≤ b1 := by rw [← eb3]; exact (Ext.refl M).next
  have X8 := (Ext.refl M).trans E6
  obtain ⟨w9, N10, M11, p12, l13, e14, E15, hM16, Q17, G18⟩ := call_t (P := Try.prog) (GL := []) (f := 12) hM7 (con12)
  have g19 := E15.old g5
  have ew9 : w9 = .bool true := (Option.some.inj Q17).symm
  subst ew9
  have X20 := X8.trans E15
  obtain ⟨w21, N22, M23, p24, l25, e26, E27, hM28, Q29, G30⟩ := call_t (P := Try.prog) (GL := []) (f := 22) hM16 (con22 (MemOk.log hM16) (hr.Ext X20).log)
  have g31 := E27.old g19
  have ew21 := Qfew.val (hr.Ext X20).log Q29
  subst ew21
  have X32 := X20.trans E27
  obtain ⟨w34, N35, M36, p37, l38, e39, E40, hM41, Q42, G43⟩ := call_t (P := Try.prog) (GL := []) (f := 23) hM28 (con23 x a c ns y (IntKind.wrap .i64 (y.tdiv (7 : Int))) (MemOk.log hM28) (hs.Ext X32).log)
  have g44 := E40.old g31
  obtain ⟨y33S0, y33F0, y33bs, y33bf, ew34, y33S1, y33F1, y33d⟩ := Qmk.val (hs.Ext X32).log Q42
  obtain ⟨y33sa, y33sn, y33sc, rfl⟩ := y33S1.shape
  obtain ⟨y33fa, y33fn, y33fc, rfl⟩ := y33F1.shape
  subst ew34
  have y33S := y33S1.all (M' := M36) (fun id k g => by rw [G43]; exact g)
  have y33F := y33F1.all (M' := M36) (fun id k g => by rw [G43]; exact g)
  have y33n : M.next ≤ M23.next := (X32).next
  have X45 := X32.trans E40
  obtain ⟨b46, M47, eb48, em49, g50, E51, hM52⟩ := new_t hM41 ⟨[(i64 0), (i64 0), (i64 0), sln, sln], 28, 5, 0, true⟩
  have nb46 : M.next ≤ b46 := by rw [← eb48]; exact X45.next
  have db1b46 : b1 ≠ b46 := by have := Mem.lt_of_get g44; omega
  have g53 := E51.old g44
  have X54 := X45.trans E51
  obtain ⟨M55, q56, g57, kp58, X59, hM60, nx61⟩ := store_t (o := 0) (v := (.agg ⟨[(i64 (nOf x)), (i64 (modI y (nOf x))), (i64 (modI (IntKind.wrap .i64 (y.tdiv (7 : Int))) (nOf x))), (.slice y33sa y33sn y33sc), (.slice y33fa y33fn y33fc)]⟩)) (new := [(i64 (nOf x)), (i64 (modI y (nOf x))), (i64 (modI (IntKind.wrap .i64 (y.tdiv (7 : Int))) (nOf x))), (.slice y33sa y33sn y33sc), (.slice y33fa y33fn y33fc)]) X54 nb46 hM52 dS28 g50 rfl rfl (Nat.zero_le _) (Nat.le_of_ble_eq_true rfl) rfl
  replace g57 : M55.get b46 = some ⟨[(i64 (nOf x)), (i64 (modI y (nOf x))), (i64 (modI (IntKind.wrap .i64 (y.tdiv (7 : Int))) (nOf x))), (.slice y33sa y33sn y33sc), (.slice y33fa y33fn y33fc)], 28, 5, 0, true⟩ := g57
  have g62 := (kp58 _ db1b46).trans g53
  have hkM : ∀ id k, M36.get id = some k → id ≠ b46 → M55.get id = some k := fun id k g hp => (kp58 id hp).trans (E51.old g)
  have hps := y33S.ne eb48
  have hpf := y33F.ne eb48
  have rS := y33S.but hps hkM
  have rF := y33F.but hpf hkM
  obtain ⟨R63, eR64⟩ : ∃ m : Mem, m = Mem.mk M55.blks M55.next M55.hide [] := ⟨_, rfl⟩
  have X65 : Ext (Mem.mk M.blks M.next M.hide []) R63 := by rw [eR64]; exact Ext.aside (X59)
  have lg66 : R63.log = [] := by rw [eR64]
  have hM67 : MemOk R63 := by rw [eR64]; exact MemOk.log hM60
  have ltb1M55 : b1 < M55.next := Mem.lt_of_get g62
  have g68 : R63.get b1 = some ⟨[(i64 n), (i64 st), (i64 en), (.slice a1 l1.length c1), (.slice a2 l2.length c2)], 28, 5, 0, true⟩ := by rw [eR64]; exact g62
  have ltb46M55 : b46 < M55.next := Mem.lt_of_get g57
  have g69 : R63.get b46 = some ⟨[(i64 (nOf x)), (i64 (modI y (nOf x))), (i64 (modI (IntKind.wrap .i64 (y.tdiv (7 : Int))) (nOf x))), (.slice y33sa y33sn y33sc), (.slice y33fa y33fn y33fc)], 28, 5, 0, true⟩ := by rw [eR64]; exact g57
  obtain ⟨w70, N71, M72, p73, l74, e75, E76, hM77, Q78, G79⟩ := call_t (P := Try.prog) (GL := []) (f := 18) hM67 (con18 (MemOk.log hM67) ((NfaAt.log hr).Ext X65).log)
  have g80 := E76.old g68
  have g81 := E76.old g69
  have ew70 := Qchk.val ((NfaAt.log hr).Ext X65).log Q78
  subst ew70
  have lg82 : M72.log = [] := by rw [← e75]; exact lg66
  have X83 := X65.trans E76
  have nx84 := E76.next
  have lb85 := Mem.lt_of_get g80
  have lb86 := Mem.lt_of_get g81
  obtain ⟨w87, N88, M89, p90, l91, e92, E93, hM94, Q95, G96⟩ := call_t (P := Try.prog) (GL := []) (f := 24) hM77 (con24 (MemOk.log hM77) ((NfaAt.log hr).Ext X83).log)
  have g97 := E93.old g80
  have g98 := E93.old g81
  have ew87 := Qchk.val ((NfaAt.log hr).Ext X83).log Q95
  subst ew87
  have lg99 : M89.log = [] := by rw [← e92]; exact lg82
  have X100 := X83.trans E93
  have nx101 := E93.next
  have lb102 := Mem.lt_of_get g97
  have lb103 := Mem.lt_of_get g98
  have hN104 : NfaAt R63 (.agg ⟨[(i64 (nOf x)), (i64 (modI y (nOf x))), (i64 (modI (IntKind.wrap .i64 (y.tdiv (7 : Int))) (nOf x))), (.slice y33sa y33sn y33sc), (.slice y33fa y33fn y33fc)]⟩) (nOf x) (modI y (nOf x)) (modI (IntKind.wrap .i64 (y.tdiv (7 : Int))) (nOf x)) (stepsOf (nOf x) (ns.take 14)) (freesOf (nOf x) (ns.take 14)) := ⟨_, _, rfl, (rS.all (by rw [eR64]; exact fun _ _ g => g)).flat (stepsOf_wide _ _) hk1, (rF.all (by rw [eR64]; exact fun _ _ g => g)).flat (freesOf_wide _ _) hk2⟩
  replace hN104 := hN104.Ext E76
  replace hN104 := hN104.Ext E93
  obtain ⟨w105, N106, M107, p108, l109, e110, E111, hM112, Q113, G114⟩ := call_t (P := Try.prog) (GL := []) (f := 18) hM94 (con18 (MemOk.log hM94) hN104.log)
  have g115 := E111.old g97
  have g116 := E111.old g98
  have ew105 := Qchk.val hN104.log Q113
  rw [mk_right (nOf x) _ _ (nOf_range x) (ns.take 14) hns14] at ew105
  subst ew105
  have lg117 : M107.log = [] := by rw [← e110]; exact lg99
  have X118 := X100.trans E111
  have nx119 := E111.next
  have lb120 := Mem.lt_of_get g115
  have lb121 := Mem.lt_of_get g116
  obtain ⟨M122, ef123⟩ : ∃ m : Mem, m = (Mem.mk M107.blks M107.next M107.hide (M107.log ++ M55.log)) := ⟨_, rfl⟩
  have X124 : Ext M M122 := by rw [ef123]; exact Ext.join (X59) (X118)
  have hM125 : MemOk M122 := by rw [ef123]; exact hM112
  have g126 : M122.get b1 = some ⟨[(i64 n), (i64 st), (i64 en), (.slice a1 l1.length c1), (.slice a2 l2.length c2)], 28, 5, 0, true⟩ := by rw [ef123]; exact g115
  have g127 : M122.get b46 = some ⟨[(i64 (nOf x)), (i64 (modI y (nOf x))), (i64 (modI (IntKind.wrap .i64 (y.tdiv (7 : Int))) (nOf x))), (.slice y33sa y33sn y33sc), (.slice y33fa y33fn y33fc)], 28, 5, 0, true⟩ := by rw [ef123]; exact g116
  have hk128 : ∀ id k, M55.get id = some k → M122.get id = some k := fun id k g => by rw [ef123]; exact (E111.old (E93.old (E76.old (show R63.get id = some k by rw [eR64]; exact g))))
  obtain ⟨w129, N130, M131, p132, l133, e134, E135, hM136, Q137, G138⟩ := call_t (P := Try.prog) (GL := []) (f := 25) hM125 (con25 w 7 (by decide))
  have g139 := E135.old g126
  have g140 := E135.old g127
  have ew129 : w129 = i64 ((j : Nat) : Int) := by
    have h : i64 (modI w 7) = w129 := Option.some.inj Q137.1
    rw [← h, hj]
  subst ew129
  have X141 := X124.trans E135
  obtain ⟨T143, M142, sn_, sst, sen, sSv, sFv, sl1, sl2, hR144, hs145, X146, hM147, g148, sS, sF⟩ := switch5 j hj7 hM136 X141 (Mx := _) y33n b46 (nOf x) _ _ v nb46 (nOf_range x) g140 ((rS.all hk128).all (fun _ _ g => E135.old g)) ((rF.all hk128).all (fun _ _ g => E135.old g)) y33d hps hpf (stepsOf_wide _ _) (freesOf_wide _ _) hk14 hk24
  obtain ⟨R149, eR150⟩ : ∃ m : Mem, m = Mem.mk M142.blks M142.next M142.hide [] := ⟨_, rfl⟩
  have X151 : Ext (Mem.mk M.blks M.next M.hide []) R149 := by rw [eR150]; exact Ext.aside (X146)
  have lg152 : R149.log = [] := by rw [eR150]
  have hM153 : MemOk R149 := by rw [eR150]; exact MemOk.log hM147
  have ltb46M142 : b46 < M142.next := Mem.lt_of_get g148
  have g154 : R149.get b46 = some ⟨[(i64 sn_), (i64 sst), (i64 sen), sSv, sFv], 28, 5, 0, true⟩ := by rw [eR150]; exact g148
  have hN155 : NfaAt R149 (.agg ⟨[(i64 sn_), (i64 sst), (i64 sen), sSv, sFv]⟩) sn_ sst sen sl1 sl2 := ⟨_, _, rfl, sS.ext (by rw [eR150]; exact fun _ _ g => g), sF.ext (by rw [eR150]; exact fun _ _ g => g)⟩
  obtain ⟨w156, N157, M158, p159, l160, e161, E162, hM163, Q164, G165⟩ := call_t (P := Try.prog) (GL := []) (f := 18) hM153 (con18 (MemOk.log hM153) hN155.log)
  have g166 := E162.old g154
  have ew156 := Qchk.val hN155.log Q164
  subst ew156
  have lg167 : M158.log = [] := by rw [← e161]; exact lg152
  have X168 := X151.trans E162
  have nx169 := E162.next
  have lb170 := Mem.lt_of_get g166
  have hN171 : NfaAt R149 (.agg ⟨[(i64 sn_), (i64 sst), (i64 sen), sSv, sFv]⟩) sn_ sst sen sl1 sl2 := ⟨_, _, rfl, sS.ext (by rw [eR150]; exact fun _ _ g => g), sF.ext (by rw [eR150]; exact fun _ _ g => g)⟩
  replace hN171 := hN171.Ext E162
  obtain ⟨w172, N173, M174, p175, l176, e177, E178, hM179, Q180, G181⟩ := call_t (P := Try.prog) (GL := []) (f := 24) hM163 (con24 (MemOk.log hM163) hN171.log)
  have g182 := E178.old g166
  have ew172 := Qchk.val hN171.log Q180
  subst ew172
  have lg183 : M174.log = [] := by rw [← e177]; exact lg167
  have X184 := X168.trans E178
  have nx185 := E178.next
  have lb186 := Mem.lt_of_get g182
  obtain ⟨M187, ef188⟩ : ∃ m : Mem, m = (Mem.mk M174.blks M174.next M174.hide (M174.log ++ M142.log)) := ⟨_, rfl⟩
  have X189 : Ext M M187 := by rw [ef188]; exact Ext.join (X146) (X184)
  have hM190 : MemOk M187 := by rw [ef188]; exact hM179
  have g191 : M187.get b46 = some ⟨[(i64 sn_), (i64 sst), (i64 sen), sSv, sFv], 28, 5, 0, true⟩ := by rw [ef188]; exact g182
  have hraw := w5_0_raw n st en a1 c1 a2 c2 l1 l2 x a c ns y w v j M b1 M2 M11 M23 y33sa y33sn y33sc y33fa y33fn y33fc M36 b46 M47 M55 M72 M89 M107 M131 M142 sn_ sst sen sSv sFv sl1 sl2 M158 M174
  have rw0 : Mem.mk M55.blks M55.next M55.hide [] = R63 := eR64.symm
  have rw1 : Mem.mk M72.blks M72.next M55.hide M72.log = M72 := by rw [(show M55.hide = M72.hide from ((X59).hide.trans (X83).hide.symm))]
  have rw2 : Mem.mk M72.blks M72.next (hides 0 [⟨1, 1, M55.next, M72.next⟩, ⟨0, 1, M55.next, M55.next⟩] ++ M55.hide) M72.log = hidx (hides 0 [⟨1, 1, M55.next, M72.next⟩, ⟨0, 1, M55.next, M55.next⟩]) M72 := by rw [(show M55.hide = M72.hide from ((X59).hide.trans (X83).hide.symm))]; rfl
  have rw3 : Mem.mk M89.blks M89.next M55.hide M89.log = M89 := by rw [(show M55.hide = M89.hide from ((X59).hide.trans (X100).hide.symm))]
  have rw4 : Mem.mk M107.blks M107.next M55.hide M107.log = M107 := by rw [(show M55.hide = M107.hide from ((X59).hide.trans (X118).hide.symm))]
  have rw5 : (Mem.mk M107.blks M107.next M55.hide (M107.log ++ M55.log)) = (Mem.mk M107.blks M107.next M107.hide (M107.log ++ M55.log)) := by rw [(show M55.hide = M107.hide from ((X59).hide.trans (X118).hide.symm))]
  have rw6 : (Mem.mk M107.blks M107.next M107.hide (M107.log ++ M55.log)) = M122 := ef123.symm
  have rw7 : Mem.mk M142.blks M142.next M142.hide [] = R149 := eR150.symm
  have rw8 : Mem.mk M158.blks M158.next M142.hide M158.log = M158 := by rw [(show M142.hide = M158.hide from ((X146).hide.trans (X168).hide.symm))]
  have rw9 : Mem.mk M158.blks M158.next (hides 0 [⟨1, 1, M142.next, M158.next⟩, ⟨0, 1, M142.next, M142.next⟩] ++ M142.hide) M158.log = hidx (hides 0 [⟨1, 1, M142.next, M158.next⟩, ⟨0, 1, M142.next, M142.next⟩]) M158 := by rw [(show M142.hide = M158.hide from ((X146).hide.trans (X168).hide.symm))]; rfl
  have rw10 : Mem.mk M174.blks M174.next M142.hide M174.log = M174 := by rw [(show M142.hide = M174.hide from ((X146).hide.trans (X184).hide.symm))]
  have rw11 : (Mem.mk M174.blks M174.next M142.hide (M174.log ++ M142.log)) = (Mem.mk M174.blks M174.next M174.hide (M174.log ++ M142.log)) := by rw [(show M142.hide = M174.hide from ((X146).hide.trans (X184).hide.symm))]
  have rw12 : (Mem.mk M174.blks M174.next M174.hide (M174.log ++ M142.log)) = M187 := ef188.symm
  try rw [rw0] at hraw
  try rw [rw1] at hraw
  try rw [rw2] at hraw
  try rw [rw3] at hraw
  try rw [rw4] at hraw
  try rw [rw5] at hraw
  try rw [rw6] at hraw
  try rw [rw7] at hraw
  try rw [rw8] at hraw
  try rw [rw9] at hraw
  try rw [rw10] at hraw
  try rw [rw11] at hraw
  try rw [rw12] at hraw
  have hE := Ev.told_tmp noNumP mixedP Try.func5 q5_ok (by kernel_rfl) rK5 (fun B => specsB_ok (hS5_12_18_22_23_24_25 B) (k := [(0, bone (q5.blkAt 0) Try.f5.ntmps [5, 13, 36] [some (i64 v), some (pt b46 0), some (i64 (((j : Nat) : Int)))] M131 .normal (fr [(13, (pt b46 0))]) M142)]) (fun p hp => by simp only [List.mem_cons, List.not_mem_nil, or_false] at hp; rcases hp with rfl <;> first | exact BlkOk.ran noNumP mixedP hR144 (TSub.fr (l := [(13, (pt b46 0))]) hs145))) (fun _ h => blksF_one h) hraw (hk (q_eq (by rw [← eb3, ← em4]; kernel_rfl) Nat.one_ne_zero) (hk (q_call rfl p12 l13 e14) (hk (lA ⟨dA28, dS28⟩ g19 rfl) (hk (q_call rfl p24 l25 e26) (hk (bF (by rw [cc0]; rfl)) (hk (q_call rfl p37 l38 e39) (hk (q_eq (by rw [← eb48, ← em49]; kernel_rfl) Nat.one_ne_zero) (hk (q_st q56) (hk (lA ⟨dA28, dS28⟩ g68 rfl) (hk (q_call rfl p73 l74 e75) (hk (lA ⟨dA28, dS28⟩ (hidx_get.2 ⟨hides_low (by simp; omega), g80⟩) rfl) (hk (q_lt ltb1M55) (hk (q_call rfl p90 l91 e92) (hk (bF (by simp)) (hk (lA ⟨dA28, dS28⟩ g98 rfl) (hk (bF (by simp)) (hk (q_call rfl p108 l109 e110) (hk (bF (by simp)) (hk (bF (by simp)) (hk (q_apart (by rw [lg117]; simp <;> omega)) (hk (q_call rfl p132 l133 e134) (hk (q_blk rfl) (hk (lA ⟨dA28, dS28⟩ g154 rfl) (hk (q_call rfl p159 l160 e161) (hk (lA ⟨dA28, dS28⟩ (hidx_get.2 ⟨hides_low (by simp; omega), g166⟩) rfl) (hk (q_lt ltb46M142) (hk (q_call rfl p175 l176 e177) (hk (q_apart (by rw [lg183]; simp <;> omega)) hn))))))))))))))))))))))))))))
  have hv : ((.bool ((chkB sn_ sst sen sl1 sl2) == (chkB sn_ sst sen sl1 sl2))) : Value) = Value.bool true := by simp
  rw [hv] at hE
  exact ⟨_, hE⟩
theorem hS5_12_22 (B : Nat) : ∀ p ∈ ([(12, pick (Con Try.prog [] 12 (Fl g12))), (22, pick (Con Try.prog [] 22 Qfew))] : List (FuncId × (List Value → Mem → Option (Value × Mem)))), SpecOk Try.prog [] B p.1 p.2 := (fun p hp => by simp only [List.mem_cons, List.not_mem_nil, or_false] at hp; rcases hp with rfl | rfl <;> first | exact Con.ok _)
theorem w5_1_raw (n st en : Int) (a1 : Option Addr) (c1 : Nat) (a2 : Option Addr) (c2 : Nat) (l1 l2 : List (List Int)) (x : Int) (a : Option Addr) (c : Nat) (ns : List Int) (y w v : Int) (_ : Nat) (M : Mem) (b1 : Nat) (M2 : Mem) (M11 : Mem) (M23 : Mem) : oT Try.prog [] 60 Try.f5 q5 [(.agg ⟨[(i64 n), (i64 st), (i64 en), (.slice a1 l1.length c1), (.slice a2 l2.length c2)]⟩), i64 x, (.slice a ns.length c), i64 y, i64 w, i64 v] M [ttV 1 (pt b1 0) M2, ttV 5 (.bool true) M11, ttL 10 (.agg ⟨[(i64 n), (i64 st), (i64 en), (.slice a1 l1.length c1), (.slice a2 l2.length c2)]⟩), ttV 12 (.bool (fewB l1 l2)) M23, ttT 15] 12 = some (.ret, some (.bool true), M23, [.eq (abox Try.prog 28 (.agg ⟨[(i64 n), (i64 st), (i64 en), (.slice a1 l1.length c1), (.slice a2 l2.length c2)]⟩) M) (1, .val (pt b1 0), M2), qC 12 [] M2 (.bool true) M11, qL 28 b1 0 M11 (.agg ⟨[(i64 n), (i64 st), (i64 en), (.slice a1 l1.length c1), (.slice a2 l2.length c2)]⟩), qC 22 [(.agg ⟨[(i64 n), (i64 st), (i64 en), (.slice a1 l1.length c1), (.slice a2 l2.length c2)]⟩)] M11 (.bool (fewB l1 l2)) M23, qT (!(fewB l1 l2))]) := by kernel_rfl
theorem w5_1 (n st en : Int) (a1 : Option Addr) (c1 : Nat) (a2 : Option Addr) (c2 : Nat) (l1 l2 : List (List Int)) (x : Int) (a : Option Addr) (c : Nat) (ns : List Int) (y w v : Int) (j : Nat) {M : Mem} (hM : MemOk M) (hr : NfaAt M (.agg ⟨[(i64 n), (i64 st), (i64 en), (.slice a1 l1.length c1), (.slice a2 l2.length c2)]⟩) n st en l1 l2) (_ : FlatAt 1 M (.slice a ns.length c) (ns.map ([·]))) (_ : j < 7) (_ : modI w 7 = ((j : Nat) : Int)) (cc0 : (fewB l1 l2) = false) : ∃ M', Ev Try.prog [] 5 [(.agg ⟨[(i64 n), (i64 st), (i64 en), (.slice a1 l1.length c1), (.slice a2 l2.length c2)]⟩), i64 x, (.slice a ns.length c), i64 y, i64 w, i64 v] M (.bool true) M' := by
  have hns14 : (ns.take 14).length ≤ 14 := by simp; omega
  have hk14 := Nat.le_trans (stepsOf_len (nOf x) (ns.take 14)) hns14
  have hk24 := Nat.le_trans (freesOf_len (nOf x) (ns.take 14)) hns14
  have hk1 : (stepsOf (nOf x) (ns.take 14)).length ≤ 9223372036854775807 := by omega
  have hk2 : (freesOf (nOf x) (ns.take 14)).length ≤ 9223372036854775807 := by omega
  obtain ⟨b1, M2, eb3, em4, g5, E6, hM7⟩ := new_t hM ⟨[(i64 n), (i64 st), (i64 en), (.slice a1 l1.length c1), (.slice a2 l2.length c2)], 28, 5, 0, true⟩
  have nb1 : M.next ≤ b1 := by rw [← eb3]; exact (Ext.refl M).next
  have X8 := (Ext.refl M).trans E6
  obtain ⟨w9, N10, M11, p12, l13, e14, E15, hM16, Q17, G18⟩ := call_t (P := Try.prog) (GL := []) (f := 12) hM7 (con12)
  have g19 := E15.old g5
  have ew9 : w9 = .bool true := (Option.some.inj Q17).symm
  subst ew9
  have X20 := X8.trans E15
  obtain ⟨w21, N22, M23, p24, l25, e26, E27, hM28, Q29, G30⟩ := call_t (P := Try.prog) (GL := []) (f := 22) hM16 (con22 (MemOk.log hM16) (hr.Ext X20).log)
  have g31 := E27.old g19
  have ew21 := Qfew.val (hr.Ext X20).log Q29
  subst ew21
  have X32 := X20.trans E27
  have hraw := w5_1_raw n st en a1 c1 a2 c2 l1 l2 x a c ns y w v j M b1 M2 M11 M23
  have hE := Ev.told_tmp noNumP mixedP Try.func5 q5_ok (by kernel_rfl) rK5 (fun B => specsB_ok (k := []) (hS5_12_22 B) (fun p hp => by cases hp)) (fun _ _ => rfl) hraw (hk (q_eq (by rw [← eb3, ← em4]; kernel_rfl) Nat.one_ne_zero) (hk (q_call rfl p12 l13 e14) (hk (lA ⟨dA28, dS28⟩ g19 rfl) (hk (q_call rfl p24 l25 e26) (hk (bT (by rw [cc0]; rfl)) hn)))))
  exact ⟨_, hE⟩
end Go.Proofs.Ytnpalannikpfoaa
