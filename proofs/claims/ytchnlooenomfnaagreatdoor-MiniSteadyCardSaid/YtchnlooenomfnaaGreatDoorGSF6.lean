/-
  What is proved: MiniSteady: a machine of Make's is steady just if a letter twice is a letter once: for every x, y, every word. For every argument; one laid table (math/bits) is tied by the card.
-/
import Derived.Test.YtchnlooenomfnaaGreatDoorSF5
set_option linter.unusedVariables false
set_option linter.unusedSimpArgs false
open Go Go.Am Go.Proofs
namespace Go.Proofs.YtchnlooenomfnaaGreatDoor
set_option maxRecDepth 100000
def okL (l1 : List (List Int)) (i j : Nat) : Bool := (goF l1 ((i : Nat) : Int) [((j : Nat) : Int)]) == (goF l1 ((i : Nat) : Int) [((j : Nat) : Int), ((j : Nat) : Int)])
def okI (l1 : List (List Int)) (i : Nat) : Bool := (List.range 5).all (okL l1 i)
theorem loopI {l1 : List (List Int)} {l2 : List Bool} {a1 : Option Addr} {c1 : Nat} {a2 : Option Addr} {c2 : Nat} (b i : Nat) (hg : l1.any (badR ((l1.length : Nat) : Int)) = false) : ∀ (k j : Nat), j + k = 5 → ∀ {M : Mem}, MemOk M → DfaAt M (.agg ⟨[.slice a1 l1.length c1, .slice a2 l2.length c2]⟩) l1 l2 → M.get b = some ⟨[.slice a1 l1.length c1, .slice a2 l2.length c2], 27, 2, 0, true⟩ →
    ∃ M' e T', Go.Am.Ext M M' ∧ LoopR Tryz.prog [] (q10.loopAt 2) Tryz.f10.ntmps (fr [(9, pt b 0), (11, i64 ((i : Nat) : Int)), (12, i64 ((j : Nat) : Int))]) M e T' M' ∧
      (((∀ m, j ≤ m → m < 5 → okL l1 i m = true) ∧ e = .exit 2 ∧ T' = fr [(9, pt b 0), (11, i64 ((i : Nat) : Int))]) ∨ ((∃ m, m < 5 ∧ okL l1 i m = false) ∧ e = .ret ∧ T' = fr [(8, .bool true)])) := by
  intro k
  induction k with
  | zero =>
    intro j hj M hM hd hb
    obtain ⟨T1, M1, h1, h2, h3, h4⟩ := rdLx b i j a1 c1 a2 c2 l1 l2 hM hd hg hb (decide_eq_false (by omega))
    exact ⟨M1, _, _, h3, LoopR.stop h1 (by simp) (TSub.fr (l := [(9, pt b 0), (11, i64 ((i : Nat) : Int))]) h2), .inl ⟨fun m h5 h6 => by omega, rfl, rfl⟩⟩
  | succ k ih =>
    intro j hj M hM hd hb
    have hc : decide ((((j : Nat) : Int)) < (5 : Int)) = true := decide_eq_true (by omega)
    cases hq : okL l1 i j with
    | true =>
      obtain ⟨T1, M1, h1, h2, h3, h4⟩ := rdLn b i j a1 c1 a2 c2 l1 l2 hM hd hg hb hc hq
      rw [wrap_succ (by omega)] at h2
      obtain ⟨M2, e, T', q1, q2, q3⟩ := ih (j + 1) (by omega) h4 (hd.Ext h3) (h3.old hb)
      refine ⟨M2, e, T', h3.trans q1, LoopR.step h1 (TSub.fr (l := [(9, pt b 0), (11, i64 ((i : Nat) : Int)), (12, i64 ((j + 1 : Nat) : Int))]) h2) q2, ?_⟩
      rcases q3 with ⟨q3, q4, q5⟩ | q3
      · refine .inl ⟨fun m h5 h6 => ?_, q4, q5⟩
        rcases Nat.lt_or_ge j m with h7 | h7
        · exact q3 m h7 h6
        · rw [show m = j by omega]; exact hq
      · exact .inr q3
    | false =>
      obtain ⟨T1, M1, h1, h2, h3, h4⟩ := rdLr b i j a1 c1 a2 c2 l1 l2 hM hd hg hb hc hq
      exact ⟨M1, _, _, h3, LoopR.stop h1 (by simp) (TSub.fr (l := [(8, .bool true)]) h2), .inr ⟨⟨j, by omega, hq⟩, rfl, rfl⟩⟩
theorem loopI_w {l1 : List (List Int)} {l2 : List Bool} {a1 : Option Addr} {c1 : Nat} {a2 : Option Addr} {c2 : Nat} (b i : Nat) (hg : l1.any (badR ((l1.length : Nat) : Int)) = false) {M : Mem} (hM : MemOk M) (hd : DfaAt M (.agg ⟨[.slice a1 l1.length c1, .slice a2 l2.length c2]⟩) l1 l2) (hb : M.get b = some ⟨[.slice a1 l1.length c1, .slice a2 l2.length c2], 27, 2, 0, true⟩) :
    (okI l1 i = false → ∃ M', LoopR Tryz.prog [] (q10.loopAt 2) Tryz.f10.ntmps (fr [(9, pt b 0), (11, i64 ((i : Nat) : Int)), (12, i64 0)]) M .ret (fr [(8, .bool true)]) M' ∧ Go.Am.Ext M M' ∧ MemOk M') ∧
    (okI l1 i = true → ∃ M', LoopR Tryz.prog [] (q10.loopAt 2) Tryz.f10.ntmps (fr [(9, pt b 0), (11, i64 ((i : Nat) : Int)), (12, i64 0)]) M (.exit 2) (fr [(9, pt b 0), (11, i64 ((i : Nat) : Int))]) M' ∧ Go.Am.Ext M M' ∧ MemOk M') := by
  obtain ⟨M', e, T', h1, h2, h3⟩ := loopI b i hg 5 0 (by omega) hM hd hb
  rcases h3 with ⟨h3, rfl, rfl⟩ | ⟨⟨m, h3, h4⟩, rfl, rfl⟩
  · have : okI l1 i = true := List.all_eq_true.2 fun m hm => h3 m (Nat.zero_le _) (List.mem_range.1 hm)
    rw [this]
    exact ⟨fun h => by simp at h, fun _ => ⟨M', h2, h1, hM.ext h1⟩⟩
  · have : okI l1 i = false := List.all_eq_false.2 ⟨m, List.mem_range.2 h3, by simp [h4]⟩
    rw [this]
    exact ⟨fun _ => ⟨M', h2, h1, hM.ext h1⟩, fun h => by simp at h⟩
theorem rdOn_raw (b i : Nat) (a1 : Option Addr) (c1 : Nat) (a2 : Option Addr) (c2 : Nat) (l1 : List (List Int)) (l2 : List Bool) (M : Mem) (M1 : Mem) : oR Tryz.prog [2] 60 Tryz.f10 (q10.loopAt 0) [(9, (pt b 0)), (11, (i64 (((i : Nat) : Int))))] M [ttL 5 (.slice a1 l1.length c1), ttT 7, ttT 10, .blk 13 [9, 11, 12] .normal (fr [(9, (pt b 0)), (11, (i64 (((i : Nat) : Int))))]) M1] [9, 11] = some (.normal, [some (pt b 0), some (i64 (IntKind.wrap .i64 ((((i : Nat) : Int)) + (1 : Int))))], M1, [qL 24 b 0 M (.slice a1 l1.length c1), .ln a1 l1.length c1, qT (decide ((((i : Nat) : Int)) < (((l1.length : Nat) : Int)))), .blk 2 (.loop (q10.loopAt 2)) Tryz.f10.ntmps [9, 11, 12] [some (pt b 0), some (i64 (((i : Nat) : Int))), some (i64 0)] M .normal (fr [(9, (pt b 0)), (11, (i64 (((i : Nat) : Int))))]) M1]) := by kernel_rfl
theorem rdOn (b i : Nat) (a1 : Option Addr) (c1 : Nat) (a2 : Option Addr) (c2 : Nat) (l1 : List (List Int)) (l2 : List Bool) {M : Mem} (hM : MemOk M) (hln : a1.isNone = true → l1.length = 0 ∧ c1 = 0) (hd : DfaAt M (.agg ⟨[(.slice a1 l1.length c1), (.slice a2 l2.length c2)]⟩) l1 l2) (hg : l1.any (badR ((l1.length : Nat) : Int)) = false) (hb : M.get b = some ⟨[(.slice a1 l1.length c1), (.slice a2 l2.length c2)], 27, 2, 0, true⟩) (cc0 : (decide ((((i : Nat) : Int)) < (((l1.length : Nat) : Int)))) = true) (cc1 : (okI l1 i) = true) : ∃ T1 M', Rd Tryz.prog [] (q10.loopAt 0) Tryz.f10.ntmps (fr [(9, (pt b 0)), (11, (i64 (((i : Nat) : Int))))]) M .normal T1 M' ∧ [9, 11].map T1.get = [some (pt b 0), some (i64 (IntKind.wrap .i64 ((((i : Nat) : Int)) + (1 : Int))))] ∧ Ext M M' ∧ MemOk M' := by
  obtain ⟨M1, hL2, E3, hM4⟩ := (loopI_w b i hg hM (hd.Ext (Ext.refl M)) hb).2 cc1
  have g5 := E3.old hb
  have X6 := (Ext.refl M).trans E3
  have hraw := rdOn_raw b i a1 c1 a2 c2 l1 l2 M M1
  obtain ⟨T1, h1, h2⟩ := Rd.told noNumP mixedP (fun B => specsB_ok (l := []) (fun p hp => by cases hp) (k := [(2, bone (.loop (q10.loopAt 2)) Tryz.f10.ntmps [9, 11, 12] [some (pt b 0), some (i64 (((i : Nat) : Int))), some (i64 0)] M .normal (fr [(9, (pt b 0)), (11, (i64 (((i : Nat) : Int))))]) M1)]) (fun p hp => by simp only [List.mem_cons, List.not_mem_nil, or_false] at hp; rcases hp with rfl <;> first | exact BlkOk.loop noNumP mixedP hL2)) (fun _ h => blksF_one h) hraw (hk (lC dC24 hb rfl) (hk (lN hln) (hk (bT cc0) (hk (q_blk rfl) hn))))
  exact ⟨T1, M1, h1, h2, X6, hM4⟩
theorem rdOr_raw (b i : Nat) (a1 : Option Addr) (c1 : Nat) (a2 : Option Addr) (c2 : Nat) (l1 : List (List Int)) (l2 : List Bool) (M : Mem) (M1 : Mem) : oR Tryz.prog [2] 60 Tryz.f10 (q10.loopAt 0) [(9, (pt b 0)), (11, (i64 (((i : Nat) : Int))))] M [ttL 5 (.slice a1 l1.length c1), ttT 7, ttT 10, .blk 13 [9, 11, 12] .ret (fr [(8, .bool true)]) M1] [8] = some (.ret, [some (.bool true)], M1, [qL 24 b 0 M (.slice a1 l1.length c1), .ln a1 l1.length c1, qT (decide ((((i : Nat) : Int)) < (((l1.length : Nat) : Int)))), .blk 2 (.loop (q10.loopAt 2)) Tryz.f10.ntmps [9, 11, 12] [some (pt b 0), some (i64 (((i : Nat) : Int))), some (i64 0)] M .ret (fr [(8, .bool true)]) M1]) := by kernel_rfl
theorem rdOr (b i : Nat) (a1 : Option Addr) (c1 : Nat) (a2 : Option Addr) (c2 : Nat) (l1 : List (List Int)) (l2 : List Bool) {M : Mem} (hM : MemOk M) (hln : a1.isNone = true → l1.length = 0 ∧ c1 = 0) (hd : DfaAt M (.agg ⟨[(.slice a1 l1.length c1), (.slice a2 l2.length c2)]⟩) l1 l2) (hg : l1.any (badR ((l1.length : Nat) : Int)) = false) (hb : M.get b = some ⟨[(.slice a1 l1.length c1), (.slice a2 l2.length c2)], 27, 2, 0, true⟩) (cc0 : (decide ((((i : Nat) : Int)) < (((l1.length : Nat) : Int)))) = true) (cc1 : (okI l1 i) = false) : ∃ T1 M', Rd Tryz.prog [] (q10.loopAt 0) Tryz.f10.ntmps (fr [(9, (pt b 0)), (11, (i64 (((i : Nat) : Int))))]) M .ret T1 M' ∧ [8].map T1.get = [some (.bool true)] ∧ Ext M M' ∧ MemOk M' := by
  obtain ⟨M1, hL2, E3, hM4⟩ := (loopI_w b i hg hM (hd.Ext (Ext.refl M)) hb).1 cc1
  have g5 := E3.old hb
  have X6 := (Ext.refl M).trans E3
  have hraw := rdOr_raw b i a1 c1 a2 c2 l1 l2 M M1
  obtain ⟨T1, h1, h2⟩ := Rd.told noNumP mixedP (fun B => specsB_ok (l := []) (fun p hp => by cases hp) (k := [(2, bone (.loop (q10.loopAt 2)) Tryz.f10.ntmps [9, 11, 12] [some (pt b 0), some (i64 (((i : Nat) : Int))), some (i64 0)] M .ret (fr [(8, .bool true)]) M1)]) (fun p hp => by simp only [List.mem_cons, List.not_mem_nil, or_false] at hp; rcases hp with rfl <;> first | exact BlkOk.loop noNumP mixedP hL2)) (fun _ h => blksF_one h) hraw (hk (lC dC24 hb rfl) (hk (lN hln) (hk (bT cc0) (hk (q_blk rfl) hn))))
  exact ⟨T1, M1, h1, h2, X6, hM4⟩
theorem rdOx_raw (b i : Nat) (a1 : Option Addr) (c1 : Nat) (a2 : Option Addr) (c2 : Nat) (l1 : List (List Int)) (l2 : List Bool) (M : Mem)  : oR Tryz.prog [] 60 Tryz.f10 (q10.loopAt 0) [(9, (pt b 0)), (11, (i64 (((i : Nat) : Int))))] M [ttL 5 (.slice a1 l1.length c1), ttT 7, ttF 10] [9] = some ((.exit 0), [some (pt b 0)], M, [qL 24 b 0 M (.slice a1 l1.length c1), .ln a1 l1.length c1, qF (decide ((((i : Nat) : Int)) < (((l1.length : Nat) : Int))))]) := by kernel_rfl
theorem rdOx (b i : Nat) (a1 : Option Addr) (c1 : Nat) (a2 : Option Addr) (c2 : Nat) (l1 : List (List Int)) (l2 : List Bool) {M : Mem} (hM : MemOk M) (hln : a1.isNone = true → l1.length = 0 ∧ c1 = 0) (hd : DfaAt M (.agg ⟨[(.slice a1 l1.length c1), (.slice a2 l2.length c2)]⟩) l1 l2) (hg : l1.any (badR ((l1.length : Nat) : Int)) = false) (hb : M.get b = some ⟨[(.slice a1 l1.length c1), (.slice a2 l2.length c2)], 27, 2, 0, true⟩) (cc0 : (decide ((((i : Nat) : Int)) < (((l1.length : Nat) : Int)))) = false) : ∃ T1 M', Rd Tryz.prog [] (q10.loopAt 0) Tryz.f10.ntmps (fr [(9, (pt b 0)), (11, (i64 (((i : Nat) : Int))))]) M (.exit 0) T1 M' ∧ [9].map T1.get = [some (pt b 0)] ∧ Ext M M' ∧ MemOk M' := by
  have hraw := rdOx_raw b i a1 c1 a2 c2 l1 l2 M 
  obtain ⟨T1, h1, h2⟩ := Rd.told noNumP mixedP (specs_none Tryz.prog) (fun _ _ => rfl) hraw (hk (lC dC24 hb rfl) (hk (lN hln) (hk (bF cc0) hn)))
  exact ⟨T1, M, h1, h2, (Ext.refl M), hM⟩
theorem loopO {l1 : List (List Int)} {l2 : List Bool} {a1 : Option Addr} {c1 : Nat} {a2 : Option Addr} {c2 : Nat} (b : Nat) (hg : l1.any (badR ((l1.length : Nat) : Int)) = false) (hlen : l1.length ≤ 1000) (hln : a1.isNone = true → l1.length = 0 ∧ c1 = 0) : ∀ (k i : Nat), i + k = l1.length → ∀ {M : Mem}, MemOk M → DfaAt M (.agg ⟨[.slice a1 l1.length c1, .slice a2 l2.length c2]⟩) l1 l2 → M.get b = some ⟨[.slice a1 l1.length c1, .slice a2 l2.length c2], 27, 2, 0, true⟩ →
    ∃ M' e T', Go.Am.Ext M M' ∧ LoopR Tryz.prog [] (q10.loopAt 0) Tryz.f10.ntmps (fr [(9, pt b 0), (11, i64 ((i : Nat) : Int))]) M e T' M' ∧
      (((∀ m, i ≤ m → m < l1.length → okI l1 m = true) ∧ e = .exit 0 ∧ T' = fr [(9, pt b 0)]) ∨ ((∃ m, m < l1.length ∧ okI l1 m = false) ∧ e = .ret ∧ T' = fr [(8, .bool true)])) := by
  intro k
  induction k with
  | zero =>
    intro i hi M hM hd hb
    obtain ⟨T1, M1, h1, h2, h3, h4⟩ := rdOx b i a1 c1 a2 c2 l1 l2 hM hln hd hg hb (decide_eq_false (by omega))
    exact ⟨M1, _, _, h3, LoopR.stop h1 (by simp) (TSub.fr (l := [(9, pt b 0)]) h2), .inl ⟨fun m h5 h6 => by omega, rfl, rfl⟩⟩
  | succ k ih =>
    intro i hi M hM hd hb
    have hc : decide ((((i : Nat) : Int)) < (((l1.length : Nat) : Int))) = true := decide_eq_true (by omega)
    cases hq : okI l1 i with
    | true =>
      obtain ⟨T1, M1, h1, h2, h3, h4⟩ := rdOn b i a1 c1 a2 c2 l1 l2 hM hln hd hg hb hc hq
      rw [wrap_succ (by omega)] at h2
      obtain ⟨M2, e, T', q1, q2, q3⟩ := ih (i + 1) (by omega) h4 (hd.Ext h3) (h3.old hb)
      refine ⟨M2, e, T', h3.trans q1, LoopR.step h1 (TSub.fr (l := [(9, pt b 0), (11, i64 ((i + 1 : Nat) : Int))]) h2) q2, ?_⟩
      rcases q3 with ⟨q3, q4, q5⟩ | q3
      · refine .inl ⟨fun m h5 h6 => ?_, q4, q5⟩
        rcases Nat.lt_or_ge i m with h7 | h7
        · exact q3 m h7 h6
        · rw [show m = i by omega]; exact hq
      · exact .inr q3
    | false =>
      obtain ⟨T1, M1, h1, h2, h3, h4⟩ := rdOr b i a1 c1 a2 c2 l1 l2 hM hln hd hg hb hc hq
      exact ⟨M1, _, _, h3, LoopR.stop h1 (by simp) (TSub.fr (l := [(8, .bool true)]) h2), .inr ⟨⟨i, by omega, hq⟩, rfl, rfl⟩⟩
end Go.Proofs.YtchnlooenomfnaaGreatDoor

set_option linter.unusedVariables false
set_option linter.unusedSimpArgs false
open Go Go.Am Go.Proofs
namespace Go.Proofs.YtchnlooenomfnaaGreatDoor
set_option maxRecDepth 100000
end Go.Proofs.YtchnlooenomfnaaGreatDoor
noncomputable section
namespace Go.Am
open Go
theorem append_nilN {P : Program} {sT xT elem : TypeId} {M : Mem} {bx o c w y n : Nat} {blk : ABlk} {new : List Value} (hn : 0 < n) (hn2 : n < 1073741824) (hs : P.underlying sT = some (.slice elem)) (hx : P.underlying xT = some (.slice elem)) (he : elemOf P elem = some (w, y, true)) (hw : 0 < w) (hy : y ≤ 1024)
    (hg : M.get bx = some blk) (ht : takeN (n * w) (blk.cs.drop o) = some new) (hc : new.all isCell = true) (hl : new.length = n * w) :
    aappend P [sT, xT] (.slice none 0 0) (.slice (some ⟨bx, o, none⟩) n c) M = some (1, .val (.slice (some ⟨M.next, 0, none⟩) n n), M.alloc ⟨new, elem, w, 0, true⟩) := by
  unfold elemOf at he
  cases hi : P.info? elem with
  | none => rw [hi] at he; cases he
  | some e =>
    rw [hi] at he
    simp only [Option.map_some, Option.some.injEq] at he
    have hr := roomy_of (n := n) he hw hy (by omega)
    simp only [Prod.mk.injEq] at he
    obtain ⟨rfl, rfl, _⟩ := he
    have h0 : Nat.beq n 0 = false := by
      cases hb : Nat.beq n 0
      · rfl
      · have := Nat.eq_of_beq_eq_true hb; omega
    unfold aappend
    simp only [hs, hx, hi, lenV, isIntD, firsts, hg, range, ht, hr, hc, hl, h0]
    simp [made, anew]
theorem append_moreN {P : Program} {sT xT elem : TypeId} {M : Mem} {a bx o c w y len n : Nat} {blk b0 : ABlk} {new : List Value} (hn : 1 < n) (hkt : keepT P elem = false) (hs : P.underlying sT = some (.slice elem)) (hx : P.underlying xT = some (.slice elem)) (he : elemOf P elem = some (w, y, true)) (hw : 0 < w) (hy : y ≤ 1024) (hlen : len + n < 1073741824)
    (hg : M.get bx = some blk) (ht : takeN (n * w) (blk.cs.drop o) = some new) (hc : new.all isCell = true) (hl : new.length = n * w) (h0 : M.get a = some b0) (hcs : b0.cs.length = len * w) (hel : b0.elem = elem) (hez : b0.esz = w) (hwf : b0.wf = 0) (happ : b0.app = true) :
    aappend P [sT, xT] (.slice (some ⟨a, 0, none⟩) len len) (.slice (some ⟨bx, o, none⟩) n c) M = some (2, .val (.slice (some ⟨M.next, 0, none⟩) (len + n) (len + n)), (M.put a none).alloc ⟨b0.cs ++ new, elem, w, 0, true⟩) := by
  unfold elemOf at he
  cases hi : P.info? elem with
  | none => rw [hi] at he; cases he
  | some e =>
    rw [hi] at he
    simp only [Option.map_some, Option.some.injEq] at he
    have hr := roomy_of (n := len + n) he hw hy (by omega)
    simp only [Prod.mk.injEq] at he
    obtain ⟨rfl, rfl, _⟩ := he
    have hn0 : Nat.beq n 0 = false := by
      cases hb : Nat.beq n 0
      · rfl
      · have := Nat.eq_of_beq_eq_true hb; omega
    unfold aappend
    have hold : takeN (len * e.size) (b0.cs.drop 0) = some b0.cs := by
      rw [List.drop_zero, ← hcs]
      exact takeN_all rfl
    simp only [hs, hx, hi, lenV, isIntD, firsts, hg, range, ht, hr, hc, hl, h0, hold, hez, hel, hwf, happ, hkt, hn0]
    simp
    have h1 : len.beq (len + 1) = false := by
      cases hb : len.beq (len + 1)
      · rfl
      · have := Nat.eq_of_beq_eq_true hb; omega
    rw [h1, Nat.ble_eq_true_of_le (Nat.zero_le _)]
    rfl
end Go.Am
end
namespace Go.Proofs.YtchnlooenomfnaaGreatDoor
theorem rdDn_raw (b bb o q c i : Nat) (z : Int) (M : Mem) (b1 : Nat) (M2 : Mem) (b10 : Nat) (M11 : Mem) : oR Tryz.prog [] 60 Tryz.f10 (q10.loopAt 4) [(9, (pt b 0)), (13, (sli bb o q c)), (14, sln), (15, (i64 (((i : Nat) : Int))))] M [ttT 8, ttT 16, ttL 18 (i64 z), ttT 24, ttL 26 (i64 z), ttV 28 (sli b1 0 2 3) M2, .at 30 (1, .val (sli b10 0 2 2), M11)] [9, 13, 14, 15] = some (.normal, [some (pt b 0), some (sli bb o q c), some (sli b10 0 2 2), some (i64 (IntKind.wrap .i64 ((((i : Nat) : Int)) + (1 : Int))))], M11, [qT (decide ((((i : Nat) : Int)) < (((q : Nat) : Int)))), .q (.inb (((i : Nat) : Int)) q) (ansB true), qL 3 bb (o + (((i : Nat) : Int) : Int).toNat * 1) M (i64 z), .q (.inb (((i : Nat) : Int)) q) (ansB true), qL 3 bb (o + (((i : Nat) : Int) : Int).toNat * 1) M (i64 z), .eq (abuildSlice Tryz.prog 22 2 [(0, (i64 z)), (1, (i64 z))] M) (1, .val (sli b1 0 2 3), M2), .q (.append [22, 22] sln (sli b1 0 2 3) M2) (1, .val (sli b10 0 2 2), M11)]) := by kernel_rfl
theorem rdDn (b bb o q c i : Nat) (z : Int) {M : Mem} (hM : MemOk M) {M0 : Mem} (X0 : Ext M0 M) (hld : aload Tryz.prog 3 ⟨bb, o + i * 1, none⟩ M = some (i64 z)) (cc0 : (decide ((((i : Nat) : Int)) < (((q : Nat) : Int)))) = true) : ∃ T1 M' b1, Rd Tryz.prog [] (q10.loopAt 4) Tryz.f10.ntmps (fr [(9, (pt b 0)), (13, (sli bb o q c)), (14, sln), (15, (i64 (((i : Nat) : Int))))]) M .normal T1 M' ∧ [9, 13, 14, 15].map T1.get = [some (pt b 0), some (sli bb o q c), some (sli b1 0 2 2), some (i64 (IntKind.wrap .i64 ((((i : Nat) : Int)) + (1 : Int))))] ∧ Ext M0 M' ∧ MemOk M' ∧ M0.next ≤ b1 ∧ M'.get b1 = some ⟨[(i64 z), (i64 z)], 3, 1, 0, true⟩ := by
  obtain ⟨b1, M2, eb3, em4, g5, E6, hM7⟩ := new_t hM ⟨[(i64 z), (i64 z)], 3, 1, 0, true⟩
  have nb1 : M0.next ≤ b1 := by rw [← eb3]; exact X0.next
  have nx8 := E6.next
  have X9 := X0.trans E6
  obtain ⟨b10, M11, eb12, em13, g14, E16, hM15⟩ := new_t hM7 ⟨[(i64 z), (i64 z)], 3, 1, 0, true⟩
  have nb10 : M0.next ≤ b10 := by rw [← eb12]; exact X9.next
  have g17 := E16.old g5
  have X18 := X9.trans E16
  have hraw := rdDn_raw b bb o q c i z M b1 M2 b10 M11
  obtain ⟨T1, h1, h2⟩ := Rd.told noNumP mixedP (specs_none Tryz.prog) (fun _ _ => rfl) hraw (hk (bT cc0) (hk (q_inb (by omega) (by have := of_decide_eq_true cc0; omega)) (hk (q_ld (hld)) (hk (q_inb (by omega) (by have := of_decide_eq_true cc0; omega)) (hk (q_ld (hld)) (hk (q_eq (by rw [← eb3, ← em4]; kernel_rfl) Nat.one_ne_zero) (hk (q_app (by rw [← eb12, ← em13]; exact append_nilN (n := 2) (by decide) (by decide) (w := 1) (by kernel_rfl) (by kernel_rfl) (y := 8) (by kernel_rfl) (by decide) (by decide) g5 rfl rfl rfl) Nat.one_ne_zero) hn)))))))
  exact ⟨T1, M11, b10, h1, h2, X18, hM15, nb10, g14⟩
theorem rdDs_raw (b bb o q c i : Nat) (z : Int) (bw m : Nat) (cs : List Value) (M : Mem) (b1 : Nat) (M2 : Mem) (b11 : Nat) (M12 : Mem) : oR Tryz.prog [] 60 Tryz.f10 (q10.loopAt 4) [(9, (pt b 0)), (13, (sli bb o q c)), (14, (sli bw 0 m m)), (15, (i64 (((i : Nat) : Int))))] M [ttT 8, ttT 16, ttL 18 (i64 z), ttT 24, ttL 26 (i64 z), ttV 28 (sli b1 0 2 3) M2, .at 30 (2, .val (sli b11 0 (m + 2) (m + 2)), M12)] [9, 13, 14, 15] = some (.normal, [some (pt b 0), some (sli bb o q c), some (sli b11 0 (m + 2) (m + 2)), some (i64 (IntKind.wrap .i64 ((((i : Nat) : Int)) + (1 : Int))))], M12, [qT (decide ((((i : Nat) : Int)) < (((q : Nat) : Int)))), .q (.inb (((i : Nat) : Int)) q) (ansB true), qL 3 bb (o + (((i : Nat) : Int) : Int).toNat * 1) M (i64 z), .q (.inb (((i : Nat) : Int)) q) (ansB true), qL 3 bb (o + (((i : Nat) : Int) : Int).toNat * 1) M (i64 z), .eq (abuildSlice Tryz.prog 22 2 [(0, (i64 z)), (1, (i64 z))] M) (1, .val (sli b1 0 2 3), M2), .q (.append [22, 22] (sli bw 0 m m) (sli b1 0 2 3) M2) (2, .val (sli b11 0 (m + 2) (m + 2)), M12)]) := by kernel_rfl
theorem rdDs (b bb o q c i : Nat) (z : Int) (bw m : Nat) (cs : List Value) {M : Mem} (hM : MemOk M) {M0 : Mem} (X0 : Ext M0 M) (hld : aload Tryz.prog 3 ⟨bb, o + i * 1, none⟩ M = some (i64 z)) (hm : m < 1000) (nbw : M0.next ≤ bw) (gw : M.get bw = some ⟨cs, 3, 1, 0, true⟩) (hcs : cs.length = m * 1) (cc0 : (decide ((((i : Nat) : Int)) < (((q : Nat) : Int)))) = true) : ∃ T1 M' b1, Rd Tryz.prog [] (q10.loopAt 4) Tryz.f10.ntmps (fr [(9, (pt b 0)), (13, (sli bb o q c)), (14, (sli bw 0 m m)), (15, (i64 (((i : Nat) : Int))))]) M .normal T1 M' ∧ [9, 13, 14, 15].map T1.get = [some (pt b 0), some (sli bb o q c), some (sli b1 0 (m + 2) (m + 2)), some (i64 (IntKind.wrap .i64 ((((i : Nat) : Int)) + (1 : Int))))] ∧ Ext M0 M' ∧ MemOk M' ∧ M0.next ≤ b1 ∧ M'.get b1 = some ⟨cs ++ [(i64 z), (i64 z)], 3, 1, 0, true⟩ := by
  obtain ⟨b1, M2, eb3, em4, g5, E6, hM7⟩ := new_t hM ⟨[(i64 z), (i64 z)], 3, 1, 0, true⟩
  have nb1 : M0.next ≤ b1 := by rw [← eb3]; exact X0.next
  have dbwb1 : bw ≠ b1 := by have := Mem.lt_of_get gw; omega
  have g8 := E6.old gw
  have nx9 := E6.next
  have X10 := X0.trans E6
  obtain ⟨b11, M12, eb13, em14, g15, X18, hM16, kp17⟩ := grow_t X10 nbw hM7 ⟨cs ++ [(i64 z), (i64 z)], 3, 1, 0, true⟩
  have nb11 : M0.next ≤ b11 := by rw [← eb13]; exact X10.next
  have hraw := rdDs_raw b bb o q c i z bw m cs M b1 M2 b11 M12
  obtain ⟨T1, h1, h2⟩ := Rd.told noNumP mixedP (specs_none Tryz.prog) (fun _ _ => rfl) hraw (hk (bT cc0) (hk (q_inb (by omega) (by have := of_decide_eq_true cc0; omega)) (hk (q_ld (hld)) (hk (q_inb (by omega) (by have := of_decide_eq_true cc0; omega)) (hk (q_ld (hld)) (hk (q_eq (by rw [← eb3, ← em4]; kernel_rfl) Nat.one_ne_zero) (hk (q_app (by rw [← eb13, ← em14]; exact append_moreN (n := 2) (by decide) (by kernel_rfl) (w := 1) (by kernel_rfl) (by kernel_rfl) (y := 8) (by kernel_rfl) (by decide) (by decide) (by omega) g5 rfl rfl rfl g8 hcs rfl rfl rfl rfl) (Nat.succ_ne_zero _)) hn)))))))
  exact ⟨T1, M12, b11, h1, h2, X18, hM16, nb11, g15⟩
theorem rdDx_raw (b : Nat) (a : Option Addr) (q c i : Nat) (sa : Option Addr) (sn sc : Nat) (M : Mem)  : oR Tryz.prog [] 60 Tryz.f10 (q10.loopAt 4) [(9, (pt b 0)), (13, (.slice a q c)), (14, (.slice sa sn sc)), (15, (i64 (((i : Nat) : Int))))] M [ttT 5, ttF 8] [9, 13, 14] = some ((.exit 4), [some (pt b 0), some (.slice a q c), some (.slice sa sn sc)], M, [.ln a q c, qF (decide ((((i : Nat) : Int)) < (((q : Nat) : Int))))]) := by kernel_rfl
theorem rdDx (b : Nat) (a : Option Addr) (q c i : Nat) (sa : Option Addr) (sn sc : Nat) {M : Mem} (hM : MemOk M) (hln : a.isNone = true → q = 0 ∧ c = 0) (cc0 : (decide ((((i : Nat) : Int)) < (((q : Nat) : Int)))) = false) : ∃ T1 M', Rd Tryz.prog [] (q10.loopAt 4) Tryz.f10.ntmps (fr [(9, (pt b 0)), (13, (.slice a q c)), (14, (.slice sa sn sc)), (15, (i64 (((i : Nat) : Int))))]) M (.exit 4) T1 M' ∧ [9, 13, 14].map T1.get = [some (pt b 0), some (.slice a q c), some (.slice sa sn sc)] ∧ Ext M M' ∧ MemOk M' := by
  have hraw := rdDx_raw b a q c i sa sn sc M 
  obtain ⟨T1, h1, h2⟩ := Rd.told noNumP mixedP (specs_none Tryz.prog) (fun _ _ => rfl) hraw (hk (lN hln) (hk (bF cc0) hn))
  exact ⟨T1, M, h1, h2, (Ext.refl M), hM⟩
end Go.Proofs.YtchnlooenomfnaaGreatDoor

set_option linter.unusedVariables false
set_option linter.unusedSimpArgs false
open Go Go.Am Go.Proofs
namespace Go.Proofs.YtchnlooenomfnaaGreatDoor
set_option maxRecDepth 100000
def dbl : List Int → List Int
  | [] => []
  | z :: w => z :: z :: dbl w
theorem dbl_app : ∀ (u v : List Int), dbl (u ++ v) = dbl u ++ dbl v
  | [], _ => rfl
  | z :: u, v => by simp only [List.cons_append, dbl, dbl_app u v]
theorem dbl_len : ∀ (u : List Int), (dbl u).length = 2 * u.length
  | [] => rfl
  | z :: u => by simp only [dbl, List.length_cons, dbl_len u]; omega
theorem dbl_take {W : List Int} {i : Nat} (h : i < W.length) : dbl (W.take (i + 1)) = dbl (W.take i) ++ [W[i], W[i]] := by
  rw [← List.take_append_getElem h, dbl_app]
  rfl
theorem loopD {M0 : Mem} {a : Option Addr} {c : Nat} {W : List Int} (b : Nat) (hW : W.length ≤ 400) (hs0 : FlatAt 1 M0 (.slice a W.length c) (W.map ([·]))) : ∀ (k i : Nat), i + k = W.length → ∀ {M : Mem} {S : Value}, WSt M0 M S (dbl (W.take i)) →
    ∃ M' S', LoopR Tryz.prog [] (q10.loopAt 4) Tryz.f10.ntmps (fr [(9, pt b 0), (13, .slice a W.length c), (14, S), (15, i64 ((i : Nat) : Int))]) M (.exit 4) (fr [(9, pt b 0), (13, .slice a W.length c), (14, S')]) M' ∧ WSt M0 M' S' (dbl W) := by
  intro k
  induction k with
  | zero =>
    intro i hi M S h
    rw [List.take_of_length_le (by omega)] at h
    obtain ⟨bw, hb⟩ := h.at_
    obtain ⟨sa, sc, rfl⟩ := hb.shape
    obtain ⟨T1, M1, h1, h2, h3, h4⟩ := rdDx b a W.length c i sa (dbl W).length sc h.ok hs0.ln (decide_eq_false (by omega))
    obtain ⟨bw', hb'⟩ : ∃ bw, WordN M0 M1 (.slice sa (dbl W).length sc) (dbl W) bw := by
      rcases hb with ⟨e1, e2⟩ | ⟨e1, e2, e3, e4⟩
      · exact ⟨0, .inl ⟨e1, e2⟩⟩
      · exact ⟨bw, .inr ⟨e1, e2, e3, h3.old e4⟩⟩
    exact ⟨M1, _, LoopR.stop h1 (by simp) (TSub.fr (l := [(9, pt b 0), (13, .slice a W.length c), (14, .slice sa (dbl W).length sc)]) h2), h.ext.trans h3, h4, bw', hb'⟩
  | succ k ih =>
    intro i hi M S h
    have hlt : i < W.length := by omega
    have hc : decide ((((i : Nat) : Int)) < (((W.length : Nat) : Int))) = true := decide_eq_true (by omega)
    obtain ⟨bb, o, rfl, hld⟩ := one_at (hs0.Ext h.ext) (by omega)
    obtain ⟨bw, hb⟩ := h.at_
    have hdt := dbl_take hlt
    have hl2 := dbl_len (W.take i)
    have hl3 : (W.take i).length = i := by rw [List.length_take]; omega
    rcases hb with ⟨e1, rfl⟩ | ⟨rfl, hpos, nbw, gw⟩
    · obtain ⟨T1, M1, b1, h1, h2, h3, h4, h5, h6⟩ := rdDn b bb o W.length c i W[i] h.ok h.ext (hld i hlt) hc
      rw [wrap_succ (by omega)] at h2
      rw [e1, List.nil_append] at hdt
      obtain ⟨M2, S', q1, q2⟩ := ih (i + 1) (by omega) (M := M1) (S := sli b1 0 2 2) ⟨h3, h4, b1, .inr ⟨by rw [hdt]; rfl, by rw [hdt]; simp, h5, by rw [hdt]; exact h6⟩⟩
      exact ⟨M2, S', LoopR.step h1 (TSub.fr (l := [(9, pt b 0), (13, sli bb o W.length c), (14, sli b1 0 2 2), (15, i64 ((i + 1 : Nat) : Int))]) h2) q1, q2⟩
    · obtain ⟨T1, M1, b1, h1, h2, h3, h4, h5, h6⟩ := rdDs b bb o W.length c i W[i] bw (dbl (W.take i)).length ((dbl (W.take i)).map i64) h.ok h.ext (hld i hlt) (by omega) nbw gw (by rw [List.length_map, Nat.mul_one]) hc
      rw [wrap_succ (by omega)] at h2
      have hL : (dbl (W.take (i + 1))).length = (dbl (W.take i)).length + 2 := by rw [hdt, List.length_append]; rfl
      obtain ⟨M2, S', q1, q2⟩ := ih (i + 1) (by omega) (M := M1) (S := sli b1 0 ((dbl (W.take i)).length + 2) ((dbl (W.take i)).length + 2)) ⟨h3, h4, b1, .inr ⟨by rw [hL], by omega, h5, by rw [hdt, List.map_append]; exact h6⟩⟩
      exact ⟨M2, S', LoopR.step h1 (TSub.fr (l := [(9, pt b 0), (13, sli bb o W.length c), (14, sli b1 0 ((dbl (W.take i)).length + 2) ((dbl (W.take i)).length + 2)), (15, i64 ((i + 1 : Nat) : Int))]) h2) q1, q2⟩
theorem cellAt_row {l1 : List (List Int)} {i : Nat} {r : List Int} (h : l1[i]? = some r) (z : Int) : cellAt l1 ((i : Nat) : Int) z = (r[z.toNat]?).getD 0 := by
  simp only [cellAt, Int.toNat_natCast, h, Option.getD_some]
theorem stRow_cell {l1 : List (List Int)} {i : Nat} {x y z u t : Int} (h : l1[i]? = some [x, y, z, u, t]) : stRow l1 [x, y, z, u, t] = true ↔ ∀ j : Nat, j < 5 → cellAt l1 (cellAt l1 ((i : Nat) : Int) ((j : Nat) : Int)) ((j : Nat) : Int) = cellAt l1 ((i : Nat) : Int) ((j : Nat) : Int) := by
  have c0 : cellAt l1 ((i : Nat) : Int) ((0 : Nat) : Int) = x := cellAt_row h _
  have c1 : cellAt l1 ((i : Nat) : Int) ((1 : Nat) : Int) = y := cellAt_row h _
  have c2 : cellAt l1 ((i : Nat) : Int) ((2 : Nat) : Int) = z := cellAt_row h _
  have c3 : cellAt l1 ((i : Nat) : Int) ((3 : Nat) : Int) = u := cellAt_row h _
  have c4 : cellAt l1 ((i : Nat) : Int) ((4 : Nat) : Int) = t := cellAt_row h _
  simp only [stRow, eq5, Bool.and_eq_true, beq_iff_eq]
  constructor
  · rintro ⟨h0, h1, h2, h3, h4⟩ j hj
    match j, hj with
    | 0, _ => rw [c0]; exact h0
    | 1, _ => rw [c1]; exact h1
    | 2, _ => rw [c2]; exact h2
    | 3, _ => rw [c3]; exact h3
    | 4, _ => rw [c4]; exact h4
  · intro h'
    have k0 := h' 0 (by omega)
    have k1 := h' 1 (by omega)
    have k2 := h' 2 (by omega)
    have k3 := h' 3 (by omega)
    have k4 := h' 4 (by omega)
    rw [c0] at k0; rw [c1] at k1; rw [c2] at k2; rw [c3] at k3; rw [c4] at k4
    exact ⟨k0, k1, k2, k3, k4⟩
theorem go_one {l1 : List (List Int)} (hg : l1.any (badR ((l1.length : Nat) : Int)) = false) (hw : ∀ r ∈ l1, r.length = 5) {i j : Nat} (hi : i < l1.length) (hj : j < 5) :
    goF l1 ((i : Nat) : Int) [((j : Nat) : Int)] = cellAt l1 ((i : Nat) : Int) ((j : Nat) : Int) ∧ goF l1 ((i : Nat) : Int) [((j : Nat) : Int), ((j : Nat) : Int)] = cellAt l1 (cellAt l1 ((i : Nat) : Int) ((j : Nat) : Int)) ((j : Nat) : Int) := by
  have n1 : noneB ((i : Nat) : Int) ((l1.length : Nat) : Int) = false := by simp [noneB]; omega
  have n2 : noneB ((j : Nat) : Int) (5 : Int) = false := by simp [noneB]; omega
  have n3 := good_cell hg hw n1 n2
  have n4 := good_cell hg hw n3 n2
  constructor
  · exact goF_some (by simp only [goL, n1, n2, Bool.or_false, cond_false]) n3
  · exact goF_some (by simp only [goL, n1, n2, n3, Bool.or_false, cond_false]) n4
theorem okI_of {l1 : List (List Int)} (hg : l1.any (badR ((l1.length : Nat) : Int)) = false) (hw : ∀ r ∈ l1, r.length = 5) (h : ∀ m, m < l1.length → okI l1 m = true) : l1.all (stRow l1) = true := by
  rw [List.all_eq_true]
  intro r hr
  obtain ⟨i, hi, rfl⟩ := List.getElem_of_mem hr
  obtain ⟨x, y, z, u, t, e⟩ := five_of (hw _ hr)
  have hi' : l1[i]? = some [x, y, z, u, t] := by rw [List.getElem?_eq_getElem hi, e]
  rw [e, stRow_cell hi']
  intro j hj
  have := List.all_eq_true.1 (h i hi) j (List.mem_range.2 hj)
  obtain ⟨g1, g2⟩ := go_one hg hw hi hj
  unfold okL at this
  rw [g1, g2] at this
  exact (beq_iff_eq.1 this).symm
theorem goL_dbl {l1 : List (List Int)} (hg : l1.any (badR ((l1.length : Nat) : Int)) = false) (hw : ∀ r ∈ l1, r.length = 5) (hst : l1.all (stRow l1) = true) : ∀ (W : List Int) (st : Int), noneB st ((l1.length : Nat) : Int) = false → goL l1 st (dbl W) = goL l1 st W
  | [], _, _ => rfl
  | z :: w, st, h => by
    cases hz : noneB z (5 : Int) with
    | true => simp only [dbl, goL, h, hz, Bool.or_true, cond_true]
    | false =>
      have n3 := good_cell hg hw h hz
      obtain ⟨a1, a2⟩ := noneB_false h
      obtain ⟨z1, z2⟩ := noneB_false hz
      have hi : st.toNat < l1.length := by omega
      obtain ⟨x, y, z', u, t, e⟩ := five_of (hw _ (List.getElem_mem hi))
      have hi' : l1[st.toNat]? = some [x, y, z', u, t] := by rw [List.getElem?_eq_getElem hi, e]
      have k := (stRow_cell hi').1 (by rw [← e]; exact List.all_eq_true.1 hst _ (List.getElem_mem hi)) z.toNat (by omega)
      rw [show ((st.toNat : Nat) : Int) = st by omega, show ((z.toNat : Nat) : Int) = z by omega] at k
      simp only [dbl, goL, h, hz, n3, Bool.or_false, cond_false, k]
      exact goL_dbl hg hw hst w _ n3
theorem goF_dbl {l1 : List (List Int)} (hg : l1.any (badR ((l1.length : Nat) : Int)) = false) (hw : ∀ r ∈ l1, r.length = 5) (hst : l1.all (stRow l1) = true) (W : List Int) (hl : 0 < l1.length) : goF l1 0 (dbl W) = goF l1 0 W := by
  have n1 : noneB 0 ((l1.length : Nat) : Int) = false := by unfold noneB; rw [decide_eq_false (by omega), decide_eq_false (by omega)]; rfl
  unfold goF
  rw [goL_dbl hg hw hst W 0 n1]
end Go.Proofs.YtchnlooenomfnaaGreatDoor
