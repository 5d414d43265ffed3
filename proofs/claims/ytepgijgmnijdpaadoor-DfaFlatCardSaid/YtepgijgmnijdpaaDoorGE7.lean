/-
  DfaFlat: with all states turned to accept what they did not a machine takes just what it did not
-/
import Derived.Test.YtepgijgmnijdpaaDoorGE1
import Derived.Test.YtepgijgmnijdpaaDoorGD3
open Go Go.Am Go.Proofs
namespace Go.Proofs.YtepgijgmnijdpaaDoor
set_option maxRecDepth 100000
theorem flat_nil {M : Mem} : FlatAt 1 M (.slice none ([] : List Int).length 0) (([] : List Int).map ([·])) := ⟨.inl ⟨_, rfl, rfl⟩, (fun r hr => by cases hr), by simp⟩
end Go.Proofs.YtepgijgmnijdpaaDoor

open Go Go.Am Go.Proofs
namespace Go.Proofs.YtepgijgmnijdpaaDoor
set_option maxRecDepth 100000
theorem append_exact {sT xT elem : TypeId} {M : Mem} {a bx c w y n : Nat} {blk b0 : ABlk} {new : List Value} (hs : Tryd.prog.underlying sT = some (.slice elem)) (hx : Tryd.prog.underlying xT = some (.slice elem)) (he : Go.Am.elemOf Tryd.prog elem = some (w, y, true)) (hw : 0 < w) (hy : y ≤ 1024) (hn0 : 0 < n) (hn : n ≤ 1073741824)
    (hg : M.get bx = some blk) (ht : takeN (n * w) (blk.cs.drop 0) = some new) (hc : new.all isCell = true) (hl : new.length = n * w) (h0 : M.get a = some b0) (hel : b0.elem = elem) (hez : b0.esz = w) :
    aappend Tryd.prog [sT, xT] (.slice (some ⟨a, 0, none⟩) 0 1) (.slice (some ⟨bx, 0, none⟩) n c) M = some (1, .val (.slice (some ⟨M.next, 0, none⟩) n n), M.alloc ⟨new, elem, w, 0, true⟩) := by
  unfold Go.Am.elemOf at he
  cases hi : Tryd.prog.info? elem with
  | none => rw [hi] at he; cases he
  | some e =>
    rw [hi] at he
    simp only [Option.map_some, Option.some.injEq] at he
    have hr := roomy_of (n := n) he hw hy (by omega)
    simp only [Prod.mk.injEq] at he
    obtain ⟨rfl, rfl, _⟩ := he
    unfold aappend
    have hold : takeN (0 * e.size) (b0.cs.drop 0) = some [] := by rw [Nat.zero_mul]; rfl
    have hb : Nat.beq n 0 = false := by
      cases h : Nat.beq n 0
      · rfl
      · have := Nat.eq_of_beq_eq_true h; omega
    simp only [hs, hx, hi, lenV, isIntD, firsts, hg, range, ht, hr, hc, hl, h0, hold, hez, hel, hb, Nat.beq_refl, Nat.zero_add, Option.isNone_none, Bool.not_true, Bool.or_false, cond_true, cond_false, List.nil_append]
    rfl
theorem append_none {sT xT elem : TypeId} {M : Mem} {a w y : Nat} {b0 : ABlk} (hs : Tryd.prog.underlying sT = some (.slice elem)) (hx : Tryd.prog.underlying xT = some (.slice elem)) (he : Go.Am.elemOf Tryd.prog elem = some (w, y, true)) (hw : 0 < w) (hy : y ≤ 1024) (h0 : M.get a = some b0) (hel : b0.elem = elem) (hez : b0.esz = w) :
    aappend Tryd.prog [sT, xT] (.slice (some ⟨a, 0, none⟩) 0 1) (.slice none 0 0) M = some (1, .val (.slice (some ⟨a, 0, none⟩) 0 1), M) := by
  unfold Go.Am.elemOf at he
  cases hi : Tryd.prog.info? elem with
  | none => rw [hi] at he; cases he
  | some e =>
    rw [hi] at he
    simp only [Option.map_some, Option.some.injEq] at he
    have hr := roomy_of (n := 0 + 0) he hw hy (by omega)
    simp only [Prod.mk.injEq] at he
    obtain ⟨rfl, rfl, _⟩ := he
    unfold aappend
    have hold : takeN (0 * e.size) (b0.cs.drop 0) = some [] := by rw [Nat.zero_mul]; rfl
    have hold0 : takeN 0 (b0.cs.drop 0) = some [] := rfl
    have hr0 := hr
    rw [Nat.zero_add] at hr0
    simp only [hs, hx, hi, lenV, isIntD, firsts, range, hr, h0, hold0, hez, hel, Nat.beq_refl, Option.isNone_none, Bool.not_true, Bool.or_false, cond_true, cond_false, List.all_nil, List.length_nil, Nat.zero_mul]
theorem r11n_raw (p1 p _ bf n i : Nat) (aw : Option Addr) (wn cw : Nat) (bad : Int) (bv : Bool) (_ : List Value) (M : Mem) (M1 : Mem) : oR Tryd.prog [] 40 Tryd.f11 (q11.loopAt 0) [(3, (.slice aw wn cw)), (4, (i64 bad)), (11, (pt p1 0)), (12, (pt p 0)), (13, (i64 (((i : Nat) : Int))))] M [ttL 5 (sli bf 0 n n), ttT 10, ttL 14 (sli bf 0 n n), ttL 20 (sli bf 0 n n), ttT 24, ttL 26 (.bool bv), ttT 30, ttS 32 M1] [3, 4, 11, 12, 13] = some (.normal, [some (.slice aw wn cw), some (i64 bad), some (pt p1 0), some (pt p 0), some (i64 (IntKind.wrap .i64 ((((i : Nat) : Int)) + (1 : Int))))], M1, [qL 23 p 1 M (sli bf 0 n n), qT (decide ((((i : Nat) : Int)) < (((n : Nat) : Int)))), qL 23 p 1 M (sli bf 0 n n), qL 23 p 1 M (sli bf 0 n n), .q (.inb (((i : Nat) : Int)) n) (ansB true), qL 4 bf (0 + (((i : Nat) : Int) : Int).toNat * 1) M (.bool bv), .q (.inb (((i : Nat) : Int)) n) (ansB true), qS 4 bf (0 + (((i : Nat) : Int) : Int).toNat * 1) (.bool (!(bv))) M M1]) := by kernel_rfl
theorem r11n (p1 p bs bf n i : Nat) (aw : Option Addr) (wn cw : Nat) (bad : Int) (bv : Bool) (cf : List Value) {M : Mem} (hM : MemOk M) {M0 : Mem} (X0 : Ext M0 M) (_ : 1 ≤ n ∧ n ≤ 9) (gp : M.get p = some ⟨[sli bs 0 n n, sli bf 0 n n], 25, 2, 0, true⟩) (nbf : M0.next ≤ bf) (gf : M.get bf = some ⟨cf, 4, 1, 0, true⟩) (dpbf : p ≠ bf) (hcf : cf.length = n * 1) (hld : aload Tryd.prog 4 ⟨bf, 0 + i * 1, none⟩ M = some (.bool bv)) (cc0 : (decide ((((i : Nat) : Int)) < (((n : Nat) : Int)))) = true) : ∃ T1 M', Rd Tryd.prog [] (q11.loopAt 0) Tryd.f11.ntmps (fr [(3, (.slice aw wn cw)), (4, (i64 bad)), (11, (pt p1 0)), (12, (pt p 0)), (13, (i64 (((i : Nat) : Int))))]) M .normal T1 M' ∧ [3, 4, 11, 12, 13].map T1.get = [some (.slice aw wn cw), some (i64 bad), some (pt p1 0), some (pt p 0), some (i64 (IntKind.wrap .i64 ((((i : Nat) : Int)) + (1 : Int))))] ∧ Ext M0 M' ∧ MemOk M' ∧ M'.get bf = some ⟨(splice cf (0 + (((i : Nat) : Int) : Int).toNat * 1) [(.bool (!(bv)))]), 4, 1, 0, true⟩ ∧ ∀ id, id ≠ bf → M'.get id = M.get id := by
  obtain ⟨M1, q2, g3, kp4, X5, hM6, nx7⟩ := store_t (o := 0 + (((i : Nat) : Int) : Int).toNat * 1) (v := (.bool (!(bv)))) (new := splice cf (0 + (((i : Nat) : Int) : Int).toNat * 1) [(.bool (!(bv)))]) X0 nbf hM dS4 gf rfl rfl (Nat.zero_le _) (by rw [hcf]; show _ + 1 ≤ n * 1; have := of_decide_eq_true cc0; omega) rfl
  replace g3 : M1.get bf = some ⟨splice cf (0 + (((i : Nat) : Int) : Int).toNat * 1) [(.bool (!(bv)))], 4, 1, 0, true⟩ := g3
  have g8 := (kp4 _ dpbf).trans gp
  have hraw := r11n_raw p1 p bs bf n i aw wn cw bad bv cf M M1
  obtain ⟨T1, h1, h2⟩ := Rd.told noNumP mixedP (specs_none Tryd.prog) (fun _ _ => rfl) hraw (hk (lC dC23 gp rfl) (hk (bT cc0) (hk (lC dC23 gp rfl) (hk (lC dC23 gp rfl) (hk (q_inb (by omega) (by have := of_decide_eq_true cc0; omega)) (hk (q_ld (hld)) (hk (q_inb (by omega) (by have := of_decide_eq_true cc0; omega)) (hk (q_st q2) hn))))))))
  exact ⟨T1, M1, h1, h2, X5, hM6, g3, fun id h => kp4 id h⟩
theorem r11x_raw (p1 p _ bf n i : Nat) (aw : Option Addr) (wn cw : Nat) (bad : Int) (_ : Bool) (_ : List Value) (M : Mem)  : oR Tryd.prog [] 40 Tryd.f11 (q11.loopAt 0) [(3, (.slice aw wn cw)), (4, (i64 bad)), (11, (pt p1 0)), (12, (pt p 0)), (13, (i64 (((i : Nat) : Int))))] M [ttL 5 (sli bf 0 n n), ttF 10] [3, 4, 11, 12] = some ((.exit 0), [some (.slice aw wn cw), some (i64 bad), some (pt p1 0), some (pt p 0)], M, [qL 23 p 1 M (sli bf 0 n n), qF (decide ((((i : Nat) : Int)) < (((n : Nat) : Int))))]) := by kernel_rfl
theorem r11x (p1 p bs bf n i : Nat) (aw : Option Addr) (wn cw : Nat) (bad : Int) (bv : Bool) (cf : List Value) {M : Mem} (_ : MemOk M) {M0 : Mem} (_ : Ext M0 M) (_ : 1 ≤ n ∧ n ≤ 9) (gp : M.get p = some ⟨[sli bs 0 n n, sli bf 0 n n], 25, 2, 0, true⟩) (_ : M0.next ≤ bf) (_ : M.get bf = some ⟨cf, 4, 1, 0, true⟩) (_ : p ≠ bf) (_ : cf.length = n * 1) (cc0 : (decide ((((i : Nat) : Int)) < (((n : Nat) : Int)))) = false) : ∃ T1, Rd Tryd.prog [] (q11.loopAt 0) Tryd.f11.ntmps (fr [(3, (.slice aw wn cw)), (4, (i64 bad)), (11, (pt p1 0)), (12, (pt p 0)), (13, (i64 (((i : Nat) : Int))))]) M (.exit 0) T1 M ∧ [3, 4, 11, 12].map T1.get = [some (.slice aw wn cw), some (i64 bad), some (pt p1 0), some (pt p 0)] := by
  have hraw := r11x_raw p1 p bs bf n i aw wn cw bad bv cf M 
  obtain ⟨T1, h1, h2⟩ := Rd.told noNumP mixedP (specs_none Tryd.prog) (fun _ _ => rfl) hraw (hk (lC dC23 gp rfl) (hk (bF cc0) hn))
  exact ⟨T1, h1, h2⟩
def flipI (l : List Bool) (i : Nat) : List Bool := (l.take i).map (!·) ++ l.drop i
theorem flipI_len (l : List Bool) (i : Nat) : (flipI l i).length = l.length := by simp [flipI]; omega
theorem flipI_get (l : List Bool) (i : Nat) (h : i < l.length) : (flipI l i)[i]? = some l[i] := by
  unfold flipI
  rw [List.getElem?_append_right (by simp; omega)]
  simp [Nat.min_eq_left (Nat.le_of_lt h), h]
theorem brows_vals (l : List Bool) : (brows l).flatten = l.map Value.bool := by
  induction l with
  | nil => rfl
  | cons b l ih => simp only [brows, List.map_cons, List.flatten_cons] at ih ⊢; rw [ih]; rfl
theorem splice_mid (v b : Value) (C : List Value) : ∀ (A : List Value), splice (A ++ b :: C) A.length [v] = A ++ v :: C
  | [] => by cases C <;> simp [splice]
  | a :: A => by
    have := splice_mid v b C A
    simp [splice, this]
theorem flipI_succ (l : List Bool) (i : Nat) (h : i < l.length) : splice (brows (flipI l i)).flatten (0 + i * 1) [.bool (!l[i])] = (brows (flipI l (i + 1))).flatten := by
  have e1 : flipI l i = (l.take i).map (!·) ++ l[i] :: l.drop (i + 1) := by unfold flipI; rw [List.drop_eq_getElem_cons h]
  have e2 : flipI l (i + 1) = (l.take i).map (!·) ++ (!l[i]) :: l.drop (i + 1) := by unfold flipI; rw [List.take_add_one, List.getElem?_eq_getElem h, List.map_append, List.append_assoc]; rfl
  have hm : 0 + i * 1 = (((l.take i).map (!·)).map Value.bool).length := by rw [List.length_map, List.length_map, List.length_take]; omega
  rw [brows_vals, brows_vals, e1, e2, List.map_append, List.map_append, List.map_cons, List.map_cons, hm]
  exact splice_mid _ _ _ _
theorem loop11 {M0 : Mem} {p1 p bs bf n : Nat} {aw : Option Addr} {wn cw : Nat} {bad : Int} {accs : List Bool} (hn9 : 1 ≤ n ∧ n ≤ 9) (hl : accs.length = n) (nbf : M0.next ≤ bf) (dpbf : p ≠ bf) : ∀ (k i : Nat), i + k = n → ∀ {M : Mem}, Ext M0 M → MemOk M → M.get p = some ⟨[sli bs 0 n n, sli bf 0 n n], 25, 2, 0, true⟩ → M.get bf = some ⟨(brows (flipI accs i)).flatten, 4, 1, 0, true⟩ →
    ∃ M', LoopR Tryd.prog [] (q11.loopAt 0) Tryd.f11.ntmps (fr [(3, .slice aw wn cw), (4, i64 bad), (11, pt p1 0), (12, pt p 0), (13, i64 ((i : Nat) : Int))]) M (.exit 0) (fr [(3, .slice aw wn cw), (4, i64 bad), (11, pt p1 0), (12, pt p 0)]) M' ∧ Ext M0 M' ∧ MemOk M' ∧ M'.get bf = some ⟨(brows (accs.map (!·))).flatten, 4, 1, 0, true⟩ ∧ ∀ id, id ≠ bf → M'.get id = M.get id := by
  intro k
  induction k with
  | zero =>
    intro i hi M X0 hM gp gf
    have hcf : (brows (flipI accs i)).flatten.length = n * 1 := by rw [brows_flen, flipI_len, hl]
    obtain ⟨T1, h1, h2⟩ := r11x p1 p bs bf n i aw wn cw bad false _ hM X0 hn9 gp nbf gf dpbf hcf (decide_eq_false (by omega))
    have hf : flipI accs i = accs.map (!·) := by unfold flipI; rw [List.take_of_length_le (by omega), List.drop_eq_nil_of_le (by omega), List.append_nil]
    exact ⟨M, LoopR.stop h1 (by simp) (TSub.fr (l := [(3, .slice aw wn cw), (4, i64 bad), (11, pt p1 0), (12, pt p 0)]) h2), X0, hM, by rw [← hf]; exact gf, fun _ _ => rfl⟩
  | succ k ih =>
    intro i hi M X0 hM gp gf
    have hcf : (brows (flipI accs i)).flatten.length = n * 1 := by rw [brows_flen, flipI_len, hl]
    have hlt : i < accs.length := by omega
    have hB : BoolsAt M (.slice (some ⟨bf, 0, none⟩) (flipI accs i).length n) (flipI accs i) := ⟨.inr ⟨bf, 0, n, _, [], [], rfl, gf, by simp [brows], rfl, fun r hr => by obtain ⟨b, _, rfl⟩ := List.mem_map.1 hr; rfl⟩, fun _ _ => rfl, by rw [flipI_len]; omega⟩
    have hld := load_row1 (P := Tryd.prog) (ty := 4) hB (flipI_get accs i hlt) rfl dC4
    obtain ⟨T1, M1, h1, h2, h3, h4, h5, h6⟩ := r11n p1 p bs bf n i aw wn cw bad accs[i] _ hM X0 hn9 gp nbf gf dpbf hcf hld (decide_eq_true (by omega))
    rw [wrap_succ (by omega)] at h2
    have e5 : (0 + (((i : Nat) : Int)).toNat * 1) = 0 + i * 1 := by simp
    rw [e5, flipI_succ accs i hlt] at h5
    obtain ⟨M2, q1, q2, q3, q4, q5⟩ := ih (i + 1) (by omega) h3 h4 ((h6 p dpbf).trans gp) h5
    exact ⟨M2, LoopR.step h1 (TSub.fr (l := [(3, .slice aw wn cw), (4, i64 bad), (11, pt p1 0), (12, pt p 0), (13, i64 ((i + 1 : Nat) : Int))]) h2) q1, q2, q3, q4, fun id h => (q5 id h).trans (h6 id h)⟩
end Go.Proofs.YtepgijgmnijdpaaDoor

open Go Go.Am Go.Proofs
namespace Go.Proofs.YtepgijgmnijdpaaDoor
set_option maxRecDepth 100000
set_option maxHeartbeats 1000000
theorem rK11 : Tryd.f11.results = #[.tmp 10] := by kernel_rfl
theorem flipI_zero (l : List Bool) : flipI l 0 = l := by simp [flipI]
theorem all_i64 : ∀ (l : List Int), (l.map i64).all isCell = true
  | [] => rfl
  | x :: l => by simp only [List.map_cons, List.all_cons, all_i64 l, Bool.and_true]; rfl
abbrev xz (bad : Int) : Int := IntKind.wrap .i64 ((5 : Int) + (modI bad 9))
theorem word_at {M : Mem} {b w n c : Nat} {q : Bool} {cs : List Value} {l : List Int} (hg : M.get b = some ⟨cs, 3, 1, w, q⟩) (h : cs = l.map i64 ∧ n = l.length) (hl : l.length ≤ 1001) : FlatAt 1 M (.slice (some ⟨b, 0, none⟩) n c) (l.map ([·])) := by
  obtain ⟨rfl, rfl⟩ := h
  refine ⟨?_, one_wide l, by rw [List.length_map]; omega⟩
  rw [List.length_map]
  exact .inr ⟨b, 0, c, _, [], [], rfl, hg, by simp [irows_one], rfl, fun r hr => irows_wide (w := 1) (one_wide l) r hr⟩
theorem con21n {x : Value} {l1 : List (List Int)} {l2 : List Bool} {aw : Option Addr} {cw n : Nat} {ws : List Int} {M : Mem} (hn : n = ws.length) (hM : MemOk M) (h : DfaAt M x l1 l2) (hw : FlatAt 1 M (.slice aw n cw) (ws.map ([·]))) : ∃ v M', Con Tryd.prog [] 21 Qrun [x, .slice aw n cw] M v M' := by
  subst hn
  exact con21 hM h hw
theorem flip_right (x y : Int) (ns : List Int) : chkB (rowsI (nOf x) ns y (nN x)) ((accsI y (nN x)).map (!·)) = true := by
  have h := mk_right x y ns
  simp only [chkB, List.length_map] at h ⊢
  exact h
theorem hS11_12_14_16_17_18_21 (B : Bd) : ∀ p ∈ ([(12, pick (Con Tryd.prog [0] 12 (Fl g12))), (14, pick (Con Tryd.prog [0] 14 Qmk)), (16, pick (Con Tryd.prog [0] 16 Qchk)), (17, pick (Con Tryd.prog [0] 17 Q17)), (18, pick (Con Tryd.prog [0] 18 Qword)), (21, pick (Con Tryd.prog [0] 21 Qrun))] : List (FuncId × (List Value → Mem → Option (Value × Mem)))), SpecOk Tryd.prog [0] B p.1 p.2 := (fun p hp => by simp only [List.mem_cons, List.not_mem_nil, or_false] at hp; rcases hp with rfl | rfl | rfl | rfl | rfl | rfl <;> first | exact Con.ok _ | exact SpecOk.gl (Con.ok _))
theorem w11_n_raw (x : Int) (a : Option Addr) (c : Nat) (ns : List Int) (y : Int) (aw : Option Addr) (cw : Nat) (ws : List Int) (bad : Int) (_ : TypeId) (M : Mem) (M3 : Mem) (M15 : Mem) (y12s : Nat) (y12f : Nat) (M27 : Mem) (y24s : Nat) (y24f : Nat) (b38 : Nat) (M39 : Mem) (b50 : Nat) (M51 : Mem) (M63 : Mem) (M75 : Mem) (M87 : Mem) (M101 : Mem) (b116 : Nat) (M117 : Mem) (M132 : Mem) (b148 : Nat) (M149 : Mem) (b163 : Nat) (M164 : Mem) (M195 : Mem) (M217 : Mem) (M239 : Mem) (M261 : Mem) (M283 : Mem) : oTg Tryd.prog [0] [0] 60 Tryd.f11 q11 [i64 x, (.slice a ns.length c), i64 y, (.slice aw ws.length cw), i64 bad] M [ttV 3 (.bool true) M3, ttV 14 (.agg ⟨[(sli y12s 0 (nN x) (nN x)), (sli y12f 0 (nN x) (nN x))]⟩) M15, ttV 22 (.agg ⟨[(sli y24s 0 (nN x) (nN x)), (sli y24f 0 (nN x) (nN x))]⟩) M27, ttV 24 (pt b38 0) M39, ttV 26 (pt b50 0) M51, ttS 28 M63, ttS 30 M75, .blk 33 [3, 4, 11, 12, 13] .normal (fr [(3, (.slice aw ws.length cw)), (4, (i64 bad)), (11, (pt b38 0)), (12, (pt b50 0))]) M87, ttV 37 sln M101, ttV 41 (sli b116 0 0 1) M117, .at 45 (1, .val (sli b116 0 0 1), M117), ttV 49 (i64 (modI bad 9)) M132, ttV 53 (sli b148 0 1 2) M149, .at 55 (1, .val (sli b163 0 1 1), M164), ttL 59 (.agg ⟨[(sli y12s 0 (nN x) (nN x)), (sli y12f 0 (nN x) (nN x))]⟩), ttV 63 (.bool (runF (rowsI (nOf x) ns y (nN x)) (accsI y (nN x)) [])) M195, ttL 65 (.agg ⟨[(sli y24s 0 (nN x) (nN x)), (sli y24f 0 (nN x) (nN x))]⟩), ttV 69 (.bool (runF (rowsI (nOf x) ns y (nN x)) ((accsI y (nN x)).map (!·)) [])) M217, ttT 76, ttL 77 (.agg ⟨[(sli y12s 0 (nN x) (nN x)), (sli y12f 0 (nN x) (nN x))]⟩), ttT 78, ttT 80, ttV 81 (.bool (runF (rowsI (nOf x) ns y (nN x)) (accsI y (nN x)) (([] : List Int) ++ [xz bad]))) M239, ttT 82, ttT 85, ttT 88, ttL 89 (.agg ⟨[(sli y24s 0 (nN x) (nN x)), (sli y24f 0 (nN x) (nN x))]⟩), ttT 90, ttT 92, ttV 93 (.bool (runF (rowsI (nOf x) ns y (nN x)) ((accsI y (nN x)).map (!·)) (([] : List Int) ++ [xz bad]))) M261, ttT 94, ttT 97, ttT 100, ttL 101 (.agg ⟨[(sli y24s 0 (nN x) (nN x)), (sli y24f 0 (nN x) (nN x))]⟩), ttT 102, ttV 103 (.bool true) M283, ttT 105] 10 = some (.ret, some (.bool true), (Mem.mk M283.blks M283.next M164.hide (M283.log ++ M164.log)), [qC 12 [] M (.bool true) M3, qC 14 [(i64 x), (.slice a ns.length c), (i64 y)] M3 (.agg ⟨[(sli y12s 0 (nN x) (nN x)), (sli y12f 0 (nN x) (nN x))]⟩) M15, qC 14 [(i64 x), (.slice a ns.length c), (i64 y)] M15 (.agg ⟨[(sli y24s 0 (nN x) (nN x)), (sli y24f 0 (nN x) (nN x))]⟩) M27, .eq (aalloc Tryd.prog 25 M27) (1, .val (pt b38 0), M39), .eq (aalloc Tryd.prog 25 M39) (1, .val (pt b50 0), M51), qS 25 b38 0 (.agg ⟨[(sli y12s 0 (nN x) (nN x)), (sli y12f 0 (nN x) (nN x))]⟩) M51 M63, qS 25 b50 0 (.agg ⟨[(sli y24s 0 (nN x) (nN x)), (sli y24f 0 (nN x) (nN x))]⟩) M63 M75, .blk 0 (.loop (q11.loopAt 0)) Tryd.f11.ntmps [3, 4, 11, 12, 13] [some (.slice aw ws.length cw), some (i64 bad), some (pt b38 0), some (pt b50 0), some (i64 0)] M75 .normal (fr [(3, (.slice aw ws.length cw)), (4, (i64 bad)), (11, (pt b38 0)), (12, (pt b50 0))]) M87, qC 18 [(.slice aw ws.length cw), (i64 12), (i64 4)] M87 sln M101, .eq (abuildSlice Tryd.prog 26 0 [] M101) (1, .val (sli b116 0 0 1), M117), .q (.append [26, 26] (sli b116 0 0 1) sln M117) (1, .val (sli b116 0 0 1), M117), qC 17 [(i64 bad), (i64 9)] M117 (i64 (modI bad 9)) M132, .eq (abuildSlice Tryd.prog 26 1 [(0, (i64 (IntKind.wrap .i64 ((5 : Int) + (modI bad 9)))))] M132) (1, .val (sli b148 0 1 2), M149), .q (.append [26, 26] (sli b116 0 0 1) (sli b148 0 1 2) M149) (1, .val (sli b163 0 1 1), M164), qL 25 b38 0 (Mem.mk M164.blks M164.next M164.hide []) (.agg ⟨[(sli y12s 0 (nN x) (nN x)), (sli y12f 0 (nN x) (nN x))]⟩), qC 21 [(.agg ⟨[(sli y12s 0 (nN x) (nN x)), (sli y12f 0 (nN x) (nN x))]⟩), sln] (Mem.mk M164.blks M164.next M164.hide []) (.bool (runF (rowsI (nOf x) ns y (nN x)) (accsI y (nN x)) [])) M195, qL 25 b50 0 (Mem.mk M195.blks M195.next (hides 0 [⟨2, 1, M164.next, M195.next⟩, ⟨0, 1, M164.next, M164.next⟩] ++ M164.hide) M195.log) (.agg ⟨[(sli y24s 0 (nN x) (nN x)), (sli y24f 0 (nN x) (nN x))]⟩), qT (Nat.blt b50 M164.next), qC 21 [(.agg ⟨[(sli y24s 0 (nN x) (nN x)), (sli y24f 0 (nN x) (nN x))]⟩), sln] (Mem.mk M195.blks M195.next M164.hide M195.log) (.bool (runF (rowsI (nOf x) ns y (nN x)) ((accsI y (nN x)).map (!·)) [])) M217, qT ((runF (rowsI (nOf x) ns y (nN x)) (accsI y (nN x)) []) == (!(runF (rowsI (nOf x) ns y (nN x)) ((accsI y (nN x)).map (!·)) []))), qL 25 b38 0 (Mem.mk M217.blks M217.next M164.hide M217.log) (.agg ⟨[(sli y12s 0 (nN x) (nN x)), (sli y12f 0 (nN x) (nN x))]⟩), qT ((runF (rowsI (nOf x) ns y (nN x)) (accsI y (nN x)) []) == (!(runF (rowsI (nOf x) ns y (nN x)) ((accsI y (nN x)).map (!·)) []))), qT ((runF (rowsI (nOf x) ns y (nN x)) (accsI y (nN x)) []) == (!(runF (rowsI (nOf x) ns y (nN x)) ((accsI y (nN x)).map (!·)) []))), qC 21 [(.agg ⟨[(sli y12s 0 (nN x) (nN x)), (sli y12f 0 (nN x) (nN x))]⟩), (sli b163 0 1 1)] (Mem.mk M217.blks M217.next M164.hide M217.log) (.bool (runF (rowsI (nOf x) ns y (nN x)) (accsI y (nN x)) (([] : List Int) ++ [xz bad]))) M239, qT ((runF (rowsI (nOf x) ns y (nN x)) (accsI y (nN x)) []) == (!(runF (rowsI (nOf x) ns y (nN x)) ((accsI y (nN x)).map (!·)) []))), qT ((runF (rowsI (nOf x) ns y (nN x)) (accsI y (nN x)) []) == (!(runF (rowsI (nOf x) ns y (nN x)) ((accsI y (nN x)).map (!·)) []))), qT (!(runF (rowsI (nOf x) ns y (nN x)) (accsI y (nN x)) (([] : List Int) ++ [xz bad]))), qL 25 b50 0 (Mem.mk M239.blks M239.next M164.hide M239.log) (.agg ⟨[(sli y24s 0 (nN x) (nN x)), (sli y24f 0 (nN x) (nN x))]⟩), qT (!(runF (rowsI (nOf x) ns y (nN x)) (accsI y (nN x)) (([] : List Int) ++ [xz bad]))), qT (!(runF (rowsI (nOf x) ns y (nN x)) (accsI y (nN x)) (([] : List Int) ++ [xz bad]))), qC 21 [(.agg ⟨[(sli y24s 0 (nN x) (nN x)), (sli y24f 0 (nN x) (nN x))]⟩), (sli b163 0 1 1)] (Mem.mk M239.blks M239.next M164.hide M239.log) (.bool (runF (rowsI (nOf x) ns y (nN x)) ((accsI y (nN x)).map (!·)) (([] : List Int) ++ [xz bad]))) M261, qT (!(runF (rowsI (nOf x) ns y (nN x)) (accsI y (nN x)) (([] : List Int) ++ [xz bad]))), qT (!(runF (rowsI (nOf x) ns y (nN x)) (accsI y (nN x)) (([] : List Int) ++ [xz bad]))), qT (!(runF (rowsI (nOf x) ns y (nN x)) ((accsI y (nN x)).map (!·)) (([] : List Int) ++ [xz bad]))), qL 25 b50 0 (Mem.mk M261.blks M261.next M164.hide M261.log) (.agg ⟨[(sli y24s 0 (nN x) (nN x)), (sli y24f 0 (nN x) (nN x))]⟩), qT (!(runF (rowsI (nOf x) ns y (nN x)) ((accsI y (nN x)).map (!·)) (([] : List Int) ++ [xz bad]))), qC 16 [(.agg ⟨[(sli y24s 0 (nN x) (nN x)), (sli y24f 0 (nN x) (nN x))]⟩)] (Mem.mk M261.blks M261.next M164.hide M261.log) (.bool true) M283, qT (!(runF (rowsI (nOf x) ns y (nN x)) ((accsI y (nN x)).map (!·)) (([] : List Int) ++ [xz bad]))), qT (apartN [b50] M283.log)]) := by kernel_rfl
theorem w11_n (x : Int) (a : Option Addr) (c : Nat) (ns : List Int) (y : Int) (aw : Option Addr) (cw : Nat) (ws : List Int) (bad : Int) (e : TypeId) {M : Mem} (hM : MemOk M) (hT : M.get 0 = some (tabB e)) (hs : FlatAt 1 M (.slice a ns.length c) (ns.map ([·]))) (hw : FlatAt 1 M (.slice aw ws.length cw) (ws.map ([·]))) (hwl : (wordI 4 (ws.take 12)) = []) (_ : (wordI 4 (ws.take 12)).length ≤ 1000) (_ : 1 ≤ nN x ∧ nN x ≤ 9) (hn100 : nN x ≤ 100) (hq1 : (runF (rowsI (nOf x) ns y (nN x)) (accsI y (nN x)) ([] : List Int) == !(runF (rowsI (nOf x) ns y (nN x)) ((accsI y (nN x)).map (!·)) ([] : List Int))) = true) (hq2 : runF (rowsI (nOf x) ns y (nN x)) (accsI y (nN x)) (([] : List Int) ++ [xz bad]) = false) (hq3 : runF (rowsI (nOf x) ns y (nN x)) ((accsI y (nN x)).map (!·)) (([] : List Int) ++ [xz bad]) = false) : ∃ M', Ev Tryd.prog [0] 11 [i64 x, (.slice a ns.length c), i64 y, (.slice aw ws.length cw), i64 bad] M (.bool true) M' := by
  have hpos1 : 0 < 1 := Nat.one_pos
  have hxn : ([i64 (xz bad)] : List Value) = (([] : List Int) ++ [xz bad]).map i64 ∧ 1 = (([] : List Int) ++ [xz bad]).length := ⟨rfl, rfl⟩
  obtain ⟨w1, N2, M3, p4, l5, e6, E7, hM8, Q9, G10⟩ := call_t (P := Tryd.prog) (GL := [0]) (f := 12) hM (con12c (((Ext.refl M)).old hT))
  have ew1 : w1 = .bool true := (Option.some.inj Q9).symm
  subst ew1
  have X11 := (Ext.refl M).trans E7
  obtain ⟨w13, N14, M15, p16, l17, e18, E19, hM20, Q21, G22⟩ := call_t (P := Tryd.prog) (GL := [0]) (f := 14) hM8 (Con.gl (con14 x a c ns y (MemOk.log hM8) (hs.Ext X11).log))
  obtain ⟨y12s, y12f, ew13, ⟨y12n1, y12g1⟩, ⟨y12n2, y12g2⟩, dy12sy12f⟩ := Qmk.val (hs.Ext X11).log Q21
  subst ew13
  have y12m1 : M3.next ≤ y12s := y12n1
  have y12m2 : M3.next ≤ y12f := y12n2
  have y12h1 : M15.get y12s = some ⟨(irows (rowsI (nOf x) ns y (nN x))).flatten, 31, 5, 0, true⟩ := by rw [G22]; exact y12g1
  have y12h2 : M15.get y12f = some ⟨(brows (accsI y (nN x))).flatten, 4, 1, 0, true⟩ := by rw [G22]; exact y12g2
  have ny12s : M.next ≤ y12s := Nat.le_trans (X11).next y12m1
  have ny12f : M.next ≤ y12f := Nat.le_trans (X11).next y12m2
  have X23 := X11.trans E19
  obtain ⟨w25, N26, M27, p28, l29, e30, E31, hM32, Q33, G34⟩ := call_t (P := Tryd.prog) (GL := [0]) (f := 14) hM20 (Con.gl (con14 x a c ns y (MemOk.log hM20) (hs.Ext X23).log))
  have g35 := E31.old y12h1
  have g36 := E31.old y12h2
  obtain ⟨y24s, y24f, ew25, ⟨y24n1, y24g1⟩, ⟨y24n2, y24g2⟩, dy24sy24f⟩ := Qmk.val (hs.Ext X23).log Q33
  subst ew25
  have y24m1 : M15.next ≤ y24s := y24n1
  have y24m2 : M15.next ≤ y24f := y24n2
  have y24h1 : M27.get y24s = some ⟨(irows (rowsI (nOf x) ns y (nN x))).flatten, 31, 5, 0, true⟩ := by rw [G34]; exact y24g1
  have y24h2 : M27.get y24f = some ⟨(brows (accsI y (nN x))).flatten, 4, 1, 0, true⟩ := by rw [G34]; exact y24g2
  have ny24s : M.next ≤ y24s := Nat.le_trans (X23).next y24m1
  have ny24f : M.next ≤ y24f := Nat.le_trans (X23).next y24m2
  have dy12sy24s : y12s ≠ y24s := by have := Mem.lt_of_get y12h1; omega
  have dy12sy24f : y12s ≠ y24f := by have := Mem.lt_of_get y12h1; omega
  have dy12fy24s : y12f ≠ y24s := by have := Mem.lt_of_get y12h2; omega
  have dy12fy24f : y12f ≠ y24f := by have := Mem.lt_of_get y12h2; omega
  have X37 := X23.trans E31
  obtain ⟨b38, M39, eb40, em41, g42, E43, hM44⟩ := new_t hM32 ⟨[sln, sln], 25, 2, 0, true⟩
  have nb38 : M.next ≤ b38 := by rw [← eb40]; exact X37.next
  have dy12sb38 : y12s ≠ b38 := by have := Mem.lt_of_get g35; omega
  have dy12fb38 : y12f ≠ b38 := by have := Mem.lt_of_get g36; omega
  have dy24sb38 : y24s ≠ b38 := by have := Mem.lt_of_get y24h1; omega
  have dy24fb38 : y24f ≠ b38 := by have := Mem.lt_of_get y24h2; omega
  have g45 := E43.old g35
  have g46 := E43.old g36
  have g47 := E43.old y24h1
  have g48 := E43.old y24h2
  have X49 := X37.trans E43
  obtain ⟨b50, M51, eb52, em53, g54, E55, hM56⟩ := new_t hM44 ⟨[sln, sln], 25, 2, 0, true⟩
  have nb50 : M.next ≤ b50 := by rw [← eb52]; exact X49.next
  have dy12sb50 : y12s ≠ b50 := by have := Mem.lt_of_get g45; omega
  have dy12fb50 : y12f ≠ b50 := by have := Mem.lt_of_get g46; omega
  have dy24sb50 : y24s ≠ b50 := by have := Mem.lt_of_get g47; omega
  have dy24fb50 : y24f ≠ b50 := by have := Mem.lt_of_get g48; omega
  have db38b50 : b38 ≠ b50 := by have := Mem.lt_of_get g42; omega
  have g57 := E55.old g45
  have g58 := E55.old g46
  have g59 := E55.old g47
  have g60 := E55.old g48
  have g61 := E55.old g42
  have X62 := X49.trans E55
  obtain ⟨M63, q64, g65, kp66, X67, hM68, nx69⟩ := store_t (o := 0) (v := (.agg ⟨[(sli y12s 0 (nN x) (nN x)), (sli y12f 0 (nN x) (nN x))]⟩)) (new := [(sli y12s 0 (nN x) (nN x)), (sli y12f 0 (nN x) (nN x))]) X62 nb38 hM56 dS25 g61 rfl rfl (Nat.zero_le _) (Nat.le_of_ble_eq_true rfl) rfl
  replace g65 : M63.get b38 = some ⟨[(sli y12s 0 (nN x) (nN x)), (sli y12f 0 (nN x) (nN x))], 25, 2, 0, true⟩ := g65
  have g70 := (kp66 _ dy12sb38).trans g57
  have g71 := (kp66 _ dy12fb38).trans g58
  have g72 := (kp66 _ dy24sb38).trans g59
  have g73 := (kp66 _ dy24fb38).trans g60
  have g74 := (kp66 _ (Ne.symm db38b50)).trans g54
  obtain ⟨M75, q76, g77, kp78, X79, hM80, nx81⟩ := store_t (o := 0) (v := (.agg ⟨[(sli y24s 0 (nN x) (nN x)), (sli y24f 0 (nN x) (nN x))]⟩)) (new := [(sli y24s 0 (nN x) (nN x)), (sli y24f 0 (nN x) (nN x))]) X67 nb50 hM68 dS25 g74 rfl rfl (Nat.zero_le _) (Nat.le_of_ble_eq_true rfl) rfl
  replace g77 : M75.get b50 = some ⟨[(sli y24s 0 (nN x) (nN x)), (sli y24f 0 (nN x) (nN x))], 25, 2, 0, true⟩ := g77
  have g82 := (kp78 _ dy12sb50).trans g70
  have g83 := (kp78 _ dy12fb50).trans g71
  have g84 := (kp78 _ dy24sb50).trans g72
  have g85 := (kp78 _ dy24fb50).trans g73
  have g86 := (kp78 _ db38b50).trans g65
  obtain ⟨M87, hL88, X89, hM90, g91, kp92⟩ := loop11 (p1 := b38) (aw := aw) (wn := ws.length) (cw := cw) (bad := bad) (accs := accsI y (nN x)) (nN_le x) (accsI_len _ _) ny24f (Ne.symm dy24fb50) (nN x) 0 (by omega) X79 hM80 g77 (by rw [flipI_zero]; exact g85)
  have g93 := (kp92 _ dy12sy24f).trans g82
  have g94 := (kp92 _ dy12fy24f).trans g83
  have g95 := (kp92 _ dy24sy24f).trans g84
  have g96 := (kp92 _ (Ne.symm dy24fb38)).trans g86
  have g97 := (kp92 _ (Ne.symm dy24fb50)).trans g77
  obtain ⟨w99, N100, M101, p102, l103, e104, E105, hM106, Q107, G108⟩ := call_t (P := Tryd.prog) (GL := [0]) (f := 18) hM90 (Con.gl (con18 aw cw ws 12 4 (by decide) (MemOk.log hM90) (hw.Ext X89).log))
  have g109 := E105.old g93
  have g110 := E105.old g94
  have g111 := E105.old g95
  have g112 := E105.old g91
  have g113 := E105.old g96
  have g114 := E105.old g97
  obtain ⟨w98b, w98w⟩ := Qword.val (mx := 12) (hw.Ext X89).log Q107
  have ew99 : w99 = sln := by
    rcases w98w with ⟨_, h⟩ | ⟨_, h, _⟩
    · exact h
    · rw [hwl] at h; exact absurd h (Nat.lt_irrefl 0)
  subst ew99
  have X115 := X89.trans E105
  obtain ⟨b116, M117, eb118, em119, g120, E121, hM122⟩ := new_t hM106 ⟨[], 3, 1, 0, true⟩
  have nb116 : M.next ≤ b116 := by rw [← eb118]; exact X115.next
  have dy12sb116 : y12s ≠ b116 := by have := Mem.lt_of_get g109; omega
  have dy12fb116 : y12f ≠ b116 := by have := Mem.lt_of_get g110; omega
  have dy24sb116 : y24s ≠ b116 := by have := Mem.lt_of_get g111; omega
  have dy24fb116 : y24f ≠ b116 := by have := Mem.lt_of_get g112; omega
  have db38b116 : b38 ≠ b116 := by have := Mem.lt_of_get g113; omega
  have db50b116 : b50 ≠ b116 := by have := Mem.lt_of_get g114; omega
  have g123 := E121.old g109
  have g124 := E121.old g110
  have g125 := E121.old g111
  have g126 := E121.old g112
  have g127 := E121.old g113
  have g128 := E121.old g114
  have X129 := X115.trans E121
  obtain ⟨w130, N131, M132, p133, l134, e135, E136, hM137, Q138, G139⟩ := call_t (P := Tryd.prog) (GL := [0]) (f := 17) hM122 (Con.gl (con17 bad 9 (by decide)))
  have g140 := E136.old g123
  have g141 := E136.old g124
  have g142 := E136.old g125
  have g143 := E136.old g126
  have g144 := E136.old g127
  have g145 := E136.old g128
  have g146 := E136.old g120
  have ew130 : w130 = (i64 (modI bad 9)) := (Option.some.inj Q138.1).symm
  subst ew130
  have nxM132 : M132.next = M117.next := by rw [← e135]; exact Q138.2
  have X147 := X129.trans E136
  obtain ⟨b148, M149, eb150, em151, g152, E153, hM154⟩ := new_t hM137 ⟨[(i64 (IntKind.wrap .i64 ((5 : Int) + (modI bad 9))))], 3, 1, 0, true⟩
  have nb148 : M.next ≤ b148 := by rw [← eb150]; exact X147.next
  have dy12sb148 : y12s ≠ b148 := by have := Mem.lt_of_get g140; omega
  have dy12fb148 : y12f ≠ b148 := by have := Mem.lt_of_get g141; omega
  have dy24sb148 : y24s ≠ b148 := by have := Mem.lt_of_get g142; omega
  have dy24fb148 : y24f ≠ b148 := by have := Mem.lt_of_get g143; omega
  have db38b148 : b38 ≠ b148 := by have := Mem.lt_of_get g144; omega
  have db50b148 : b50 ≠ b148 := by have := Mem.lt_of_get g145; omega
  have db116b148 : b116 ≠ b148 := by have := Mem.lt_of_get g146; omega
  have g155 := E153.old g140
  have g156 := E153.old g141
  have g157 := E153.old g142
  have g158 := E153.old g143
  have g159 := E153.old g144
  have g160 := E153.old g145
  have g161 := E153.old g146
  have X162 := X147.trans E153
  obtain ⟨b163, M164, eb165, em166, g167, E168, hM169⟩ := new_t hM154 ⟨[(i64 (IntKind.wrap .i64 ((5 : Int) + (modI bad 9))))], 3, 1, 0, true⟩
  have nb163 : M.next ≤ b163 := by rw [← eb165]; exact X162.next
  have dy12sb163 : y12s ≠ b163 := by have := Mem.lt_of_get g155; omega
  have dy12fb163 : y12f ≠ b163 := by have := Mem.lt_of_get g156; omega
  have dy24sb163 : y24s ≠ b163 := by have := Mem.lt_of_get g157; omega
  have dy24fb163 : y24f ≠ b163 := by have := Mem.lt_of_get g158; omega
  have db38b163 : b38 ≠ b163 := by have := Mem.lt_of_get g159; omega
  have db50b163 : b50 ≠ b163 := by have := Mem.lt_of_get g160; omega
  have db116b163 : b116 ≠ b163 := by have := Mem.lt_of_get g161; omega
  have db148b163 : b148 ≠ b163 := by have := Mem.lt_of_get g152; omega
  have g170 := E168.old g155
  have g171 := E168.old g156
  have g172 := E168.old g157
  have g173 := E168.old g158
  have g174 := E168.old g159
  have g175 := E168.old g160
  have g176 := E168.old g161
  have g177 := E168.old g152
  have X178 := X162.trans E168
  obtain ⟨R179, eR180⟩ : ∃ m : Mem, m = Mem.mk M164.blks M164.next M164.hide [] := ⟨_, rfl⟩
  have X181 : Ext (Mem.mk M.blks M.next M.hide []) R179 := by rw [eR180]; exact Ext.aside (X178)
  have lg182 : R179.log = [] := by rw [eR180]
  have nxR179 : R179.next = M164.next := by rw [eR180]
  have hM183 : MemOk R179 := by rw [eR180]; exact MemOk.log hM169
  have lty12sM164 : y12s < M164.next := by have h := Mem.lt_of_get g170; exact h
  have g184 : R179.get y12s = some ⟨(irows (rowsI (nOf x) ns y (nN x))).flatten, 31, 5, 0, true⟩ := by rw [eR180]; exact g170
  have lty12fM164 : y12f < M164.next := by have h := Mem.lt_of_get g171; exact h
  have g185 : R179.get y12f = some ⟨(brows (accsI y (nN x))).flatten, 4, 1, 0, true⟩ := by rw [eR180]; exact g171
  have lty24sM164 : y24s < M164.next := by have h := Mem.lt_of_get g172; exact h
  have g186 : R179.get y24s = some ⟨(irows (rowsI (nOf x) ns y (nN x))).flatten, 31, 5, 0, true⟩ := by rw [eR180]; exact g172
  have lty24fM164 : y24f < M164.next := by have h := Mem.lt_of_get g173; exact h
  have g187 : R179.get y24f = some ⟨(brows ((accsI y (nN x)).map (!·))).flatten, 4, 1, 0, true⟩ := by rw [eR180]; exact g173
  have ltb38M164 : b38 < M164.next := by have h := Mem.lt_of_get g174; exact h
  have g188 : R179.get b38 = some ⟨[(sli y12s 0 (nN x) (nN x)), (sli y12f 0 (nN x) (nN x))], 25, 2, 0, true⟩ := by rw [eR180]; exact g174
  have ltb50M164 : b50 < M164.next := by have h := Mem.lt_of_get g175; exact h
  have g189 : R179.get b50 = some ⟨[(sli y24s 0 (nN x) (nN x)), (sli y24f 0 (nN x) (nN x))], 25, 2, 0, true⟩ := by rw [eR180]; exact g175
  have ltb116M164 : b116 < M164.next := by have h := Mem.lt_of_get g176; exact h
  have g190 : R179.get b116 = some ⟨[], 3, 1, 0, true⟩ := by rw [eR180]; exact g176
  have ltb148M164 : b148 < M164.next := by have h := Mem.lt_of_get g177; exact h
  have g191 : R179.get b148 = some ⟨[(i64 (IntKind.wrap .i64 ((5 : Int) + (modI bad 9))))], 3, 1, 0, true⟩ := by rw [eR180]; exact g177
  have ltb163M164 : b163 < M164.next := by have h := Mem.lt_of_get g167; exact h
  have g192 : R179.get b163 = some ⟨[(i64 (IntKind.wrap .i64 ((5 : Int) + (modI bad 9))))], 3, 1, 0, true⟩ := by rw [eR180]; exact g167
  obtain ⟨w193, N194, M195, p196, l197, e198, E199, hM200, Q201, G202⟩ := call_t (P := Tryd.prog) (GL := [0]) (f := 21) hM183 (Con.gl (con21 (MemOk.log hM183) (mkAt g184 rfl g185 rfl).log flat_nil.log))
  have g203 := E199.old g184
  have g204 := E199.old g185
  have g205 := E199.old g186
  have g206 := E199.old g187
  have g207 := E199.old g188
  have g208 := E199.old g189
  have g209 := E199.old g190
  have g210 := E199.old g191
  have g211 := E199.old g192
  have ew193 := Qrun.val (mkAt g184 rfl g185 rfl).log flat_nil.log Q201
  subst ew193
  have lg212 : M195.log = [] := by rw [← e198]; exact lg182
  have X213 := X181.trans E199
  have nx214 := E199.next
  obtain ⟨w215, N216, M217, p218, l219, e220, E221, hM222, Q223, G224⟩ := call_t (P := Tryd.prog) (GL := [0]) (f := 21) hM200 (Con.gl (con21 (MemOk.log hM200) (dfaAt_of g205 rfl (rowsI_wide _ _ _ _) (rowsI_len _ _ _ _) g206 rfl (by rw [List.length_map, accsI_len]) hn100 hn100).log flat_nil.log))
  have g225 := E221.old g203
  have g226 := E221.old g204
  have g227 := E221.old g205
  have g228 := E221.old g206
  have g229 := E221.old g207
  have g230 := E221.old g208
  have g231 := E221.old g209
  have g232 := E221.old g210
  have g233 := E221.old g211
  have ew215 := Qrun.val (dfaAt_of g205 rfl (rowsI_wide _ _ _ _) (rowsI_len _ _ _ _) g206 rfl (by rw [List.length_map, accsI_len]) hn100 hn100).log flat_nil.log Q223
  subst ew215
  have lg234 : M217.log = [] := by rw [← e220]; exact lg212
  have X235 := X213.trans E221
  have nx236 := E221.next
  obtain ⟨w237, N238, M239, p240, l241, e242, E243, hM244, Q245, G246⟩ := call_t (P := Tryd.prog) (GL := [0]) (f := 21) hM222 (Con.gl (con21n (ws := (([] : List Int) ++ [xz bad])) (hxn).2 (MemOk.log hM222) (mkAt g225 rfl g226 rfl).log (word_at (l := (([] : List Int) ++ [xz bad])) g233 hxn (by simp only [List.length_append, List.length_cons, List.length_nil]; omega)).log))
  have g247 := E243.old g225
  have g248 := E243.old g226
  have g249 := E243.old g227
  have g250 := E243.old g228
  have g251 := E243.old g229
  have g252 := E243.old g230
  have g253 := E243.old g231
  have g254 := E243.old g232
  have g255 := E243.old g233
  have ew237 := Qrun.val (mkAt g225 rfl g226 rfl).log (word_at (l := (([] : List Int) ++ [xz bad])) g233 hxn (by simp only [List.length_append, List.length_cons, List.length_nil]; omega)).log Q245
  subst ew237
  have lg256 : M239.log = [] := by rw [← e242]; exact lg234
  have X257 := X235.trans E243
  have nx258 := E243.next
  obtain ⟨w259, N260, M261, p262, l263, e264, E265, hM266, Q267, G268⟩ := call_t (P := Tryd.prog) (GL := [0]) (f := 21) hM244 (Con.gl (con21n (ws := (([] : List Int) ++ [xz bad])) (hxn).2 (MemOk.log hM244) (dfaAt_of g249 rfl (rowsI_wide _ _ _ _) (rowsI_len _ _ _ _) g250 rfl (by rw [List.length_map, accsI_len]) hn100 hn100).log (word_at (l := (([] : List Int) ++ [xz bad])) g255 hxn (by simp only [List.length_append, List.length_cons, List.length_nil]; omega)).log))
  have g269 := E265.old g247
  have g270 := E265.old g248
  have g271 := E265.old g249
  have g272 := E265.old g250
  have g273 := E265.old g251
  have g274 := E265.old g252
  have g275 := E265.old g253
  have g276 := E265.old g254
  have g277 := E265.old g255
  have ew259 := Qrun.val (dfaAt_of g249 rfl (rowsI_wide _ _ _ _) (rowsI_len _ _ _ _) g250 rfl (by rw [List.length_map, accsI_len]) hn100 hn100).log (word_at (l := (([] : List Int) ++ [xz bad])) g255 hxn (by simp only [List.length_append, List.length_cons, List.length_nil]; omega)).log Q267
  subst ew259
  have lg278 : M261.log = [] := by rw [← e264]; exact lg256
  have X279 := X257.trans E265
  have nx280 := E265.next
  obtain ⟨w281, N282, M283, p284, l285, e286, E287, hM288, Q289, G290⟩ := call_t (P := Tryd.prog) (GL := [0]) (f := 16) hM266 (Con.gl (con16 (MemOk.log hM266) (dfaAt_of g271 rfl (rowsI_wide _ _ _ _) (rowsI_len _ _ _ _) g272 rfl (by rw [List.length_map, accsI_len]) hn100 hn100).log))
  have g291 := E287.old g269
  have g292 := E287.old g270
  have g293 := E287.old g271
  have g294 := E287.old g272
  have g295 := E287.old g273
  have g296 := E287.old g274
  have g297 := E287.old g275
  have g298 := E287.old g276
  have g299 := E287.old g277
  have ew281 := Qchk.val (dfaAt_of g271 rfl (rowsI_wide _ _ _ _) (rowsI_len _ _ _ _) g272 rfl (by rw [List.length_map, accsI_len]) hn100 hn100).log Q289
  rw [flip_right] at ew281
  subst ew281
  have lg300 : M283.log = [] := by rw [← e286]; exact lg278
  have X301 := X279.trans E287
  have nx302 := E287.next
  obtain ⟨M303, ef304⟩ : ∃ m : Mem, m = (Mem.mk M283.blks M283.next M283.hide (M283.log ++ M164.log)) := ⟨_, rfl⟩
  have X305 : Ext M M303 := by rw [ef304]; exact Ext.join (X178) (X301)
  have hM306 : MemOk M303 := by rw [ef304]; exact hM288
  have g307 : M303.get y12s = some ⟨(irows (rowsI (nOf x) ns y (nN x))).flatten, 31, 5, 0, true⟩ := by rw [ef304]; exact g291
  have g308 : M303.get y12f = some ⟨(brows (accsI y (nN x))).flatten, 4, 1, 0, true⟩ := by rw [ef304]; exact g292
  have g309 : M303.get y24s = some ⟨(irows (rowsI (nOf x) ns y (nN x))).flatten, 31, 5, 0, true⟩ := by rw [ef304]; exact g293
  have g310 : M303.get y24f = some ⟨(brows ((accsI y (nN x)).map (!·))).flatten, 4, 1, 0, true⟩ := by rw [ef304]; exact g294
  have g311 : M303.get b38 = some ⟨[(sli y12s 0 (nN x) (nN x)), (sli y12f 0 (nN x) (nN x))], 25, 2, 0, true⟩ := by rw [ef304]; exact g295
  have g312 : M303.get b50 = some ⟨[(sli y24s 0 (nN x) (nN x)), (sli y24f 0 (nN x) (nN x))], 25, 2, 0, true⟩ := by rw [ef304]; exact g296
  have g313 : M303.get b116 = some ⟨[], 3, 1, 0, true⟩ := by rw [ef304]; exact g297
  have g314 : M303.get b148 = some ⟨[(i64 (IntKind.wrap .i64 ((5 : Int) + (modI bad 9))))], 3, 1, 0, true⟩ := by rw [ef304]; exact g298
  have g315 : M303.get b163 = some ⟨[(i64 (IntKind.wrap .i64 ((5 : Int) + (modI bad 9))))], 3, 1, 0, true⟩ := by rw [ef304]; exact g299
  have hraw := w11_n_raw x a c ns y aw cw ws bad e M M3 M15 y12s y12f M27 y24s y24f b38 M39 b50 M51 M63 M75 M87 M101 b116 M117 M132 b148 M149 b163 M164 M195 M217 M239 M261 M283
  have rw0 : Mem.mk M164.blks M164.next M164.hide [] = R179 := eR180.symm
  have rw1 : Mem.mk M195.blks M195.next M164.hide M195.log = M195 := by rw [(show M164.hide = M195.hide from ((X178).hide.trans (X213).hide.symm))]
  have rw2 : Mem.mk M195.blks M195.next (hides 0 [⟨2, 1, M164.next, M195.next⟩, ⟨0, 1, M164.next, M164.next⟩] ++ M164.hide) M195.log = hidx (hides 0 [⟨2, 1, M164.next, M195.next⟩, ⟨0, 1, M164.next, M164.next⟩]) M195 := by rw [(show M164.hide = M195.hide from ((X178).hide.trans (X213).hide.symm))]; rfl
  have rw3 : Mem.mk M217.blks M217.next M164.hide M217.log = M217 := by rw [(show M164.hide = M217.hide from ((X178).hide.trans (X235).hide.symm))]
  have rw4 : Mem.mk M239.blks M239.next M164.hide M239.log = M239 := by rw [(show M164.hide = M239.hide from ((X178).hide.trans (X257).hide.symm))]
  have rw5 : Mem.mk M261.blks M261.next M164.hide M261.log = M261 := by rw [(show M164.hide = M261.hide from ((X178).hide.trans (X279).hide.symm))]
  have rw6 : Mem.mk M283.blks M283.next M164.hide M283.log = M283 := by rw [(show M164.hide = M283.hide from ((X178).hide.trans (X301).hide.symm))]
  have rw7 : (Mem.mk M283.blks M283.next M164.hide (M283.log ++ M164.log)) = (Mem.mk M283.blks M283.next M283.hide (M283.log ++ M164.log)) := by rw [(show M164.hide = M283.hide from ((X178).hide.trans (X301).hide.symm))]
  have rw8 : (Mem.mk M283.blks M283.next M283.hide (M283.log ++ M164.log)) = M303 := ef304.symm
  try rw [rw0] at hraw
  try rw [rw1] at hraw
  try rw [rw2] at hraw
  try rw [rw3] at hraw
  try rw [rw4] at hraw
  try rw [rw5] at hraw
  try rw [rw6] at hraw
  try rw [rw7] at hraw
  try rw [rw8] at hraw
  have hE := Ev.told_tmp noNumP mixedP Tryd.func11 q11_ok (by kernel_rfl) rK11 (fun B => specsB_ok (hS11_12_14_16_17_18_21 B) (k := [(0, bone (.loop (q11.loopAt 0)) Tryd.f11.ntmps [3, 4, 11, 12, 13] [some (.slice aw ws.length cw), some (i64 bad), some (pt b38 0), some (pt b50 0), some (i64 0)] M75 .normal (fr [(3, (.slice aw ws.length cw)), (4, (i64 bad)), (11, (pt b38 0)), (12, (pt b50 0))]) M87)]) (fun p hp => by simp only [List.mem_cons, List.not_mem_nil, or_false] at hp; rcases hp with rfl <;> first | exact BlkOk.gl (BlkOk.loop noNumP mixedP hL88))) (fun _ h => blksF_one h) hraw (hk (q_call rfl p4 l5 e6) (hk (q_call rfl p16 l17 e18) (hk (q_call rfl p28 l29 e30) (hk (q_eq (by rw [← eb40, ← em41]; kernel_rfl) Nat.one_ne_zero) (hk (q_eq (by rw [← eb52, ← em53]; kernel_rfl) Nat.one_ne_zero) (hk (q_st q64) (hk (q_st q76) (hk (q_blk rfl) (hk (q_call rfl p102 l103 e104) (hk (q_eq (by rw [← eb118, ← em119]; kernel_rfl) Nat.one_ne_zero) (hk (q_app (append_none (y := 8) (by kernel_rfl) (by kernel_rfl) (by kernel_rfl) (by decide) (by decide) g120 rfl rfl) Nat.one_ne_zero) (hk (q_call rfl p133 l134 e135) (hk (q_eq (by rw [← eb150, ← em151]; kernel_rfl) Nat.one_ne_zero) (hk (q_app (by rw [← eb165, ← em166]; exact append_exact (w := 1) (y := 8) (n := 1) (by kernel_rfl) (by kernel_rfl) (by kernel_rfl) (by decide) (by decide) hpos1 (by omega) g152 (by rfl) (by rfl) (by rfl) g161 rfl rfl) Nat.one_ne_zero) (hk (lA ⟨dA25, dS25⟩ g188 rfl) (hk (q_call rfl p196 l197 e198) (hk (lA ⟨dA25, dS25⟩ (hidx_get.2 ⟨hides_low (by simp; omega), g208⟩) rfl) (hk (q_lt ltb50M164) (hk (q_call rfl p218 l219 e220) (hk (bT hq1) (hk (lA ⟨dA25, dS25⟩ g229 rfl) (hk (bT hq1) (hk (bT hq1) (hk (q_call rfl p240 l241 e242) (hk (bT hq1) (hk (bT hq1) (hk (bT (by rw [hq2]; rfl)) (hk (lA ⟨dA25, dS25⟩ g252 rfl) (hk (bT (by rw [hq2]; rfl)) (hk (bT (by rw [hq2]; rfl)) (hk (q_call rfl p262 l263 e264) (hk (bT (by rw [hq2]; rfl)) (hk (bT (by rw [hq2]; rfl)) (hk (bT (by rw [hq3]; rfl)) (hk (lA ⟨dA25, dS25⟩ g274 rfl) (hk (bT (by rw [hq3]; rfl)) (hk (q_call rfl p284 l285 e286) (hk (bT (by rw [hq3]; rfl)) (hk (q_apart (by rw [lg300]; simp <;> omega)) hn)))))))))))))))))))))))))))))))))))))))
  exact ⟨_, hE⟩
theorem w11_s_raw (x : Int) (a : Option Addr) (c : Nat) (ns : List Int) (y : Int) (aw : Option Addr) (cw : Nat) (ws : List Int) (bad : Int) (_ : TypeId) (M : Mem) (M3 : Mem) (M15 : Mem) (y12s : Nat) (y12f : Nat) (M27 : Mem) (y24s : Nat) (y24f : Nat) (b38 : Nat) (M39 : Mem) (b50 : Nat) (M51 : Mem) (M63 : Mem) (M75 : Mem) (M87 : Mem) (M101 : Mem) (w98b : Nat) (b116 : Nat) (M117 : Mem) (b131 : Nat) (M132 : Mem) (M149 : Mem) (b167 : Nat) (M168 : Mem) (b186 : Nat) (M187 : Mem) (M218 : Mem) (M241 : Mem) (M264 : Mem) (M287 : Mem) (M310 : Mem) : oTg Tryd.prog [0] [0] 60 Tryd.f11 q11 [i64 x, (.slice a ns.length c), i64 y, (.slice aw ws.length cw), i64 bad] M [ttV 3 (.bool true) M3, ttV 14 (.agg ⟨[(sli y12s 0 (nN x) (nN x)), (sli y12f 0 (nN x) (nN x))]⟩) M15, ttV 22 (.agg ⟨[(sli y24s 0 (nN x) (nN x)), (sli y24f 0 (nN x) (nN x))]⟩) M27, ttV 24 (pt b38 0) M39, ttV 26 (pt b50 0) M51, ttS 28 M63, ttS 30 M75, .blk 33 [3, 4, 11, 12, 13] .normal (fr [(3, (.slice aw ws.length cw)), (4, (i64 bad)), (11, (pt b38 0)), (12, (pt b50 0))]) M87, ttV 37 (sli w98b 0 ((wordI 4 (ws.take 12)).length) ((wordI 4 (ws.take 12)).length)) M101, ttV 41 (sli b116 0 0 1) M117, .at 45 (1, .val (sli b131 0 ((wordI 4 (ws.take 12)).length) ((wordI 4 (ws.take 12)).length)), M132), ttV 49 (i64 (modI bad 9)) M149, ttV 53 (sli b167 0 1 2) M168, .at 55 (2, .val (sli b186 0 ((wordI 4 (ws.take 12)).length + 1) ((wordI 4 (ws.take 12)).length + 1)), M187), ttL 59 (.agg ⟨[(sli y12s 0 (nN x) (nN x)), (sli y12f 0 (nN x) (nN x))]⟩), ttV 63 (.bool (runF (rowsI (nOf x) ns y (nN x)) (accsI y (nN x)) (wordI 4 (ws.take 12)))) M218, ttL 65 (.agg ⟨[(sli y24s 0 (nN x) (nN x)), (sli y24f 0 (nN x) (nN x))]⟩), ttV 69 (.bool (runF (rowsI (nOf x) ns y (nN x)) ((accsI y (nN x)).map (!·)) (wordI 4 (ws.take 12)))) M241, ttT 76, ttL 77 (.agg ⟨[(sli y12s 0 (nN x) (nN x)), (sli y12f 0 (nN x) (nN x))]⟩), ttT 78, ttT 80, ttV 81 (.bool (runF (rowsI (nOf x) ns y (nN x)) (accsI y (nN x)) ((wordI 4 (ws.take 12)) ++ [xz bad]))) M264, ttT 82, ttT 85, ttT 88, ttL 89 (.agg ⟨[(sli y24s 0 (nN x) (nN x)), (sli y24f 0 (nN x) (nN x))]⟩), ttT 90, ttT 92, ttV 93 (.bool (runF (rowsI (nOf x) ns y (nN x)) ((accsI y (nN x)).map (!·)) ((wordI 4 (ws.take 12)) ++ [xz bad]))) M287, ttT 94, ttT 97, ttT 100, ttL 101 (.agg ⟨[(sli y24s 0 (nN x) (nN x)), (sli y24f 0 (nN x) (nN x))]⟩), ttT 102, ttV 103 (.bool true) M310, ttT 105] 10 = some (.ret, some (.bool true), (Mem.mk M310.blks M310.next M187.hide (M310.log ++ M187.log)), [qC 12 [] M (.bool true) M3, qC 14 [(i64 x), (.slice a ns.length c), (i64 y)] M3 (.agg ⟨[(sli y12s 0 (nN x) (nN x)), (sli y12f 0 (nN x) (nN x))]⟩) M15, qC 14 [(i64 x), (.slice a ns.length c), (i64 y)] M15 (.agg ⟨[(sli y24s 0 (nN x) (nN x)), (sli y24f 0 (nN x) (nN x))]⟩) M27, .eq (aalloc Tryd.prog 25 M27) (1, .val (pt b38 0), M39), .eq (aalloc Tryd.prog 25 M39) (1, .val (pt b50 0), M51), qS 25 b38 0 (.agg ⟨[(sli y12s 0 (nN x) (nN x)), (sli y12f 0 (nN x) (nN x))]⟩) M51 M63, qS 25 b50 0 (.agg ⟨[(sli y24s 0 (nN x) (nN x)), (sli y24f 0 (nN x) (nN x))]⟩) M63 M75, .blk 0 (.loop (q11.loopAt 0)) Tryd.f11.ntmps [3, 4, 11, 12, 13] [some (.slice aw ws.length cw), some (i64 bad), some (pt b38 0), some (pt b50 0), some (i64 0)] M75 .normal (fr [(3, (.slice aw ws.length cw)), (4, (i64 bad)), (11, (pt b38 0)), (12, (pt b50 0))]) M87, qC 18 [(.slice aw ws.length cw), (i64 12), (i64 4)] M87 (sli w98b 0 ((wordI 4 (ws.take 12)).length) ((wordI 4 (ws.take 12)).length)) M101, .eq (abuildSlice Tryd.prog 26 0 [] M101) (1, .val (sli b116 0 0 1), M117), .q (.append [26, 26] (sli b116 0 0 1) (sli w98b 0 ((wordI 4 (ws.take 12)).length) ((wordI 4 (ws.take 12)).length)) M117) (1, .val (sli b131 0 ((wordI 4 (ws.take 12)).length) ((wordI 4 (ws.take 12)).length)), M132), qC 17 [(i64 bad), (i64 9)] M132 (i64 (modI bad 9)) M149, .eq (abuildSlice Tryd.prog 26 1 [(0, (i64 (IntKind.wrap .i64 ((5 : Int) + (modI bad 9)))))] M149) (1, .val (sli b167 0 1 2), M168), .q (.append [26, 26] (sli b131 0 ((wordI 4 (ws.take 12)).length) ((wordI 4 (ws.take 12)).length)) (sli b167 0 1 2) M168) (2, .val (sli b186 0 ((wordI 4 (ws.take 12)).length + 1) ((wordI 4 (ws.take 12)).length + 1)), M187), qL 25 b38 0 (Mem.mk M187.blks M187.next M187.hide []) (.agg ⟨[(sli y12s 0 (nN x) (nN x)), (sli y12f 0 (nN x) (nN x))]⟩), qC 21 [(.agg ⟨[(sli y12s 0 (nN x) (nN x)), (sli y12f 0 (nN x) (nN x))]⟩), (sli w98b 0 ((wordI 4 (ws.take 12)).length) ((wordI 4 (ws.take 12)).length))] (Mem.mk M187.blks M187.next M187.hide []) (.bool (runF (rowsI (nOf x) ns y (nN x)) (accsI y (nN x)) (wordI 4 (ws.take 12)))) M218, qL 25 b50 0 (Mem.mk M218.blks M218.next (hides 0 [⟨2, 1, M187.next, M218.next⟩, ⟨0, 1, M187.next, M187.next⟩] ++ M187.hide) M218.log) (.agg ⟨[(sli y24s 0 (nN x) (nN x)), (sli y24f 0 (nN x) (nN x))]⟩), qT (Nat.blt b50 M187.next), qC 21 [(.agg ⟨[(sli y24s 0 (nN x) (nN x)), (sli y24f 0 (nN x) (nN x))]⟩), (sli w98b 0 ((wordI 4 (ws.take 12)).length) ((wordI 4 (ws.take 12)).length))] (Mem.mk M218.blks M218.next M187.hide M218.log) (.bool (runF (rowsI (nOf x) ns y (nN x)) ((accsI y (nN x)).map (!·)) (wordI 4 (ws.take 12)))) M241, qT ((runF (rowsI (nOf x) ns y (nN x)) (accsI y (nN x)) (wordI 4 (ws.take 12))) == (!(runF (rowsI (nOf x) ns y (nN x)) ((accsI y (nN x)).map (!·)) (wordI 4 (ws.take 12))))), qL 25 b38 0 (Mem.mk M241.blks M241.next M187.hide M241.log) (.agg ⟨[(sli y12s 0 (nN x) (nN x)), (sli y12f 0 (nN x) (nN x))]⟩), qT ((runF (rowsI (nOf x) ns y (nN x)) (accsI y (nN x)) (wordI 4 (ws.take 12))) == (!(runF (rowsI (nOf x) ns y (nN x)) ((accsI y (nN x)).map (!·)) (wordI 4 (ws.take 12))))), qT ((runF (rowsI (nOf x) ns y (nN x)) (accsI y (nN x)) (wordI 4 (ws.take 12))) == (!(runF (rowsI (nOf x) ns y (nN x)) ((accsI y (nN x)).map (!·)) (wordI 4 (ws.take 12))))), qC 21 [(.agg ⟨[(sli y12s 0 (nN x) (nN x)), (sli y12f 0 (nN x) (nN x))]⟩), (sli b186 0 ((wordI 4 (ws.take 12)).length + 1) ((wordI 4 (ws.take 12)).length + 1))] (Mem.mk M241.blks M241.next M187.hide M241.log) (.bool (runF (rowsI (nOf x) ns y (nN x)) (accsI y (nN x)) ((wordI 4 (ws.take 12)) ++ [xz bad]))) M264, qT ((runF (rowsI (nOf x) ns y (nN x)) (accsI y (nN x)) (wordI 4 (ws.take 12))) == (!(runF (rowsI (nOf x) ns y (nN x)) ((accsI y (nN x)).map (!·)) (wordI 4 (ws.take 12))))), qT ((runF (rowsI (nOf x) ns y (nN x)) (accsI y (nN x)) (wordI 4 (ws.take 12))) == (!(runF (rowsI (nOf x) ns y (nN x)) ((accsI y (nN x)).map (!·)) (wordI 4 (ws.take 12))))), qT (!(runF (rowsI (nOf x) ns y (nN x)) (accsI y (nN x)) ((wordI 4 (ws.take 12)) ++ [xz bad]))), qL 25 b50 0 (Mem.mk M264.blks M264.next M187.hide M264.log) (.agg ⟨[(sli y24s 0 (nN x) (nN x)), (sli y24f 0 (nN x) (nN x))]⟩), qT (!(runF (rowsI (nOf x) ns y (nN x)) (accsI y (nN x)) ((wordI 4 (ws.take 12)) ++ [xz bad]))), qT (!(runF (rowsI (nOf x) ns y (nN x)) (accsI y (nN x)) ((wordI 4 (ws.take 12)) ++ [xz bad]))), qC 21 [(.agg ⟨[(sli y24s 0 (nN x) (nN x)), (sli y24f 0 (nN x) (nN x))]⟩), (sli b186 0 ((wordI 4 (ws.take 12)).length + 1) ((wordI 4 (ws.take 12)).length + 1))] (Mem.mk M264.blks M264.next M187.hide M264.log) (.bool (runF (rowsI (nOf x) ns y (nN x)) ((accsI y (nN x)).map (!·)) ((wordI 4 (ws.take 12)) ++ [xz bad]))) M287, qT (!(runF (rowsI (nOf x) ns y (nN x)) (accsI y (nN x)) ((wordI 4 (ws.take 12)) ++ [xz bad]))), qT (!(runF (rowsI (nOf x) ns y (nN x)) (accsI y (nN x)) ((wordI 4 (ws.take 12)) ++ [xz bad]))), qT (!(runF (rowsI (nOf x) ns y (nN x)) ((accsI y (nN x)).map (!·)) ((wordI 4 (ws.take 12)) ++ [xz bad]))), qL 25 b50 0 (Mem.mk M287.blks M287.next M187.hide M287.log) (.agg ⟨[(sli y24s 0 (nN x) (nN x)), (sli y24f 0 (nN x) (nN x))]⟩), qT (!(runF (rowsI (nOf x) ns y (nN x)) ((accsI y (nN x)).map (!·)) ((wordI 4 (ws.take 12)) ++ [xz bad]))), qC 16 [(.agg ⟨[(sli y24s 0 (nN x) (nN x)), (sli y24f 0 (nN x) (nN x))]⟩)] (Mem.mk M287.blks M287.next M187.hide M287.log) (.bool true) M310, qT (!(runF (rowsI (nOf x) ns y (nN x)) ((accsI y (nN x)).map (!·)) ((wordI 4 (ws.take 12)) ++ [xz bad]))), qT (apartN [b50] M310.log)]) := by kernel_rfl
theorem w11_s (x : Int) (a : Option Addr) (c : Nat) (ns : List Int) (y : Int) (aw : Option Addr) (cw : Nat) (ws : List Int) (bad : Int) (e : TypeId) {M : Mem} (hM : MemOk M) (hT : M.get 0 = some (tabB e)) (hs : FlatAt 1 M (.slice a ns.length c) (ns.map ([·]))) (hw : FlatAt 1 M (.slice aw ws.length cw) (ws.map ([·]))) (hwl : (wordI 4 (ws.take 12)) ≠ []) (hwl3 : (wordI 4 (ws.take 12)).length ≤ 1000) (_ : 1 ≤ nN x ∧ nN x ≤ 9) (hn100 : nN x ≤ 100) (hq1 : (runF (rowsI (nOf x) ns y (nN x)) (accsI y (nN x)) (wordI 4 (ws.take 12)) == !(runF (rowsI (nOf x) ns y (nN x)) ((accsI y (nN x)).map (!·)) (wordI 4 (ws.take 12)))) = true) (hq2 : runF (rowsI (nOf x) ns y (nN x)) (accsI y (nN x)) ((wordI 4 (ws.take 12)) ++ [xz bad]) = false) (hq3 : runF (rowsI (nOf x) ns y (nN x)) ((accsI y (nN x)).map (!·)) ((wordI 4 (ws.take 12)) ++ [xz bad]) = false) : ∃ M', Ev Tryd.prog [0] 11 [i64 x, (.slice a ns.length c), i64 y, (.slice aw ws.length cw), i64 bad] M (.bool true) M' := by
  have hpos1 : 0 < 1 := Nat.one_pos
  have hxs : (wordI 4 (ws.take 12)).map i64 ++ [i64 (xz bad)] = ((wordI 4 (ws.take 12)) ++ [xz bad]).map i64 ∧ (wordI 4 (ws.take 12)).length + 1 = ((wordI 4 (ws.take 12)) ++ [xz bad]).length := ⟨by rw [List.map_append]; rfl, by rw [List.length_append]; rfl⟩
  have hposw : 0 < (wordI 4 (ws.take 12)).length := by have h := List.length_pos_iff.2 hwl; exact h
  obtain ⟨w1, N2, M3, p4, l5, e6, E7, hM8, Q9, G10⟩ := call_t (P := Tryd.prog) (GL := [0]) (f := 12) hM (con12c (((Ext.refl M)).old hT))
  have ew1 : w1 = .bool true := (Option.some.inj Q9).symm
  subst ew1
  have X11 := (Ext.refl M).trans E7
  obtain ⟨w13, N14, M15, p16, l17, e18, E19, hM20, Q21, G22⟩ := call_t (P := Tryd.prog) (GL := [0]) (f := 14) hM8 (Con.gl (con14 x a c ns y (MemOk.log hM8) (hs.Ext X11).log))
  obtain ⟨y12s, y12f, ew13, ⟨y12n1, y12g1⟩, ⟨y12n2, y12g2⟩, dy12sy12f⟩ := Qmk.val (hs.Ext X11).log Q21
  subst ew13
  have y12m1 : M3.next ≤ y12s := y12n1
  have y12m2 : M3.next ≤ y12f := y12n2
  have y12h1 : M15.get y12s = some ⟨(irows (rowsI (nOf x) ns y (nN x))).flatten, 31, 5, 0, true⟩ := by rw [G22]; exact y12g1
  have y12h2 : M15.get y12f = some ⟨(brows (accsI y (nN x))).flatten, 4, 1, 0, true⟩ := by rw [G22]; exact y12g2
  have ny12s : M.next ≤ y12s := Nat.le_trans (X11).next y12m1
  have ny12f : M.next ≤ y12f := Nat.le_trans (X11).next y12m2
  have X23 := X11.trans E19
  obtain ⟨w25, N26, M27, p28, l29, e30, E31, hM32, Q33, G34⟩ := call_t (P := Tryd.prog) (GL := [0]) (f := 14) hM20 (Con.gl (con14 x a c ns y (MemOk.log hM20) (hs.Ext X23).log))
  have g35 := E31.old y12h1
  have g36 := E31.old y12h2
  obtain ⟨y24s, y24f, ew25, ⟨y24n1, y24g1⟩, ⟨y24n2, y24g2⟩, dy24sy24f⟩ := Qmk.val (hs.Ext X23).log Q33
  subst ew25
  have y24m1 : M15.next ≤ y24s := y24n1
  have y24m2 : M15.next ≤ y24f := y24n2
  have y24h1 : M27.get y24s = some ⟨(irows (rowsI (nOf x) ns y (nN x))).flatten, 31, 5, 0, true⟩ := by rw [G34]; exact y24g1
  have y24h2 : M27.get y24f = some ⟨(brows (accsI y (nN x))).flatten, 4, 1, 0, true⟩ := by rw [G34]; exact y24g2
  have ny24s : M.next ≤ y24s := Nat.le_trans (X23).next y24m1
  have ny24f : M.next ≤ y24f := Nat.le_trans (X23).next y24m2
  have dy12sy24s : y12s ≠ y24s := by have := Mem.lt_of_get y12h1; omega
  have dy12sy24f : y12s ≠ y24f := by have := Mem.lt_of_get y12h1; omega
  have dy12fy24s : y12f ≠ y24s := by have := Mem.lt_of_get y12h2; omega
  have dy12fy24f : y12f ≠ y24f := by have := Mem.lt_of_get y12h2; omega
  have X37 := X23.trans E31
  obtain ⟨b38, M39, eb40, em41, g42, E43, hM44⟩ := new_t hM32 ⟨[sln, sln], 25, 2, 0, true⟩
  have nb38 : M.next ≤ b38 := by rw [← eb40]; exact X37.next
  have dy12sb38 : y12s ≠ b38 := by have := Mem.lt_of_get g35; omega
  have dy12fb38 : y12f ≠ b38 := by have := Mem.lt_of_get g36; omega
  have dy24sb38 : y24s ≠ b38 := by have := Mem.lt_of_get y24h1; omega
  have dy24fb38 : y24f ≠ b38 := by have := Mem.lt_of_get y24h2; omega
  have g45 := E43.old g35
  have g46 := E43.old g36
  have g47 := E43.old y24h1
  have g48 := E43.old y24h2
  have X49 := X37.trans E43
  obtain ⟨b50, M51, eb52, em53, g54, E55, hM56⟩ := new_t hM44 ⟨[sln, sln], 25, 2, 0, true⟩
  have nb50 : M.next ≤ b50 := by rw [← eb52]; exact X49.next
  have dy12sb50 : y12s ≠ b50 := by have := Mem.lt_of_get g45; omega
  have dy12fb50 : y12f ≠ b50 := by have := Mem.lt_of_get g46; omega
  have dy24sb50 : y24s ≠ b50 := by have := Mem.lt_of_get g47; omega
  have dy24fb50 : y24f ≠ b50 := by have := Mem.lt_of_get g48; omega
  have db38b50 : b38 ≠ b50 := by have := Mem.lt_of_get g42; omega
  have g57 := E55.old g45
  have g58 := E55.old g46
  have g59 := E55.old g47
  have g60 := E55.old g48
  have g61 := E55.old g42
  have X62 := X49.trans E55
  obtain ⟨M63, q64, g65, kp66, X67, hM68, nx69⟩ := store_t (o := 0) (v := (.agg ⟨[(sli y12s 0 (nN x) (nN x)), (sli y12f 0 (nN x) (nN x))]⟩)) (new := [(sli y12s 0 (nN x) (nN x)), (sli y12f 0 (nN x) (nN x))]) X62 nb38 hM56 dS25 g61 rfl rfl (Nat.zero_le _) (Nat.le_of_ble_eq_true rfl) rfl
  replace g65 : M63.get b38 = some ⟨[(sli y12s 0 (nN x) (nN x)), (sli y12f 0 (nN x) (nN x))], 25, 2, 0, true⟩ := g65
  have g70 := (kp66 _ dy12sb38).trans g57
  have g71 := (kp66 _ dy12fb38).trans g58
  have g72 := (kp66 _ dy24sb38).trans g59
  have g73 := (kp66 _ dy24fb38).trans g60
  have g74 := (kp66 _ (Ne.symm db38b50)).trans g54
  obtain ⟨M75, q76, g77, kp78, X79, hM80, nx81⟩ := store_t (o := 0) (v := (.agg ⟨[(sli y24s 0 (nN x) (nN x)), (sli y24f 0 (nN x) (nN x))]⟩)) (new := [(sli y24s 0 (nN x) (nN x)), (sli y24f 0 (nN x) (nN x))]) X67 nb50 hM68 dS25 g74 rfl rfl (Nat.zero_le _) (Nat.le_of_ble_eq_true rfl) rfl
  replace g77 : M75.get b50 = some ⟨[(sli y24s 0 (nN x) (nN x)), (sli y24f 0 (nN x) (nN x))], 25, 2, 0, true⟩ := g77
  have g82 := (kp78 _ dy12sb50).trans g70
  have g83 := (kp78 _ dy12fb50).trans g71
  have g84 := (kp78 _ dy24sb50).trans g72
  have g85 := (kp78 _ dy24fb50).trans g73
  have g86 := (kp78 _ db38b50).trans g65
  obtain ⟨M87, hL88, X89, hM90, g91, kp92⟩ := loop11 (p1 := b38) (aw := aw) (wn := ws.length) (cw := cw) (bad := bad) (accs := accsI y (nN x)) (nN_le x) (accsI_len _ _) ny24f (Ne.symm dy24fb50) (nN x) 0 (by omega) X79 hM80 g77 (by rw [flipI_zero]; exact g85)
  have g93 := (kp92 _ dy12sy24f).trans g82
  have g94 := (kp92 _ dy12fy24f).trans g83
  have g95 := (kp92 _ dy24sy24f).trans g84
  have g96 := (kp92 _ (Ne.symm dy24fb38)).trans g86
  have g97 := (kp92 _ (Ne.symm dy24fb50)).trans g77
  obtain ⟨w99, N100, M101, p102, l103, e104, E105, hM106, Q107, G108⟩ := call_t (P := Tryd.prog) (GL := [0]) (f := 18) hM90 (Con.gl (con18 aw cw ws 12 4 (by decide) (MemOk.log hM90) (hw.Ext X89).log))
  have g109 := E105.old g93
  have g110 := E105.old g94
  have g111 := E105.old g95
  have g112 := E105.old g91
  have g113 := E105.old g96
  have g114 := E105.old g97
  obtain ⟨w98b, w98w⟩ := Qword.val (mx := 12) (hw.Ext X89).log Q107
  obtain ⟨ew99, _, w98n, w98g⟩ := w98w.resolve_left (fun h => hwl h.1)
  subst ew99
  have w98m : M87.next ≤ w98b := w98n
  have w98h : M101.get w98b = some ⟨(wordI 4 (ws.take 12)).map i64, 3, 1, 0, true⟩ := by rw [G108]; exact w98g
  have nw98b : M.next ≤ w98b := Nat.le_trans (X89).next w98m
  have dy12sw98b : y12s ≠ w98b := by have := Mem.lt_of_get g93; omega
  have dy12fw98b : y12f ≠ w98b := by have := Mem.lt_of_get g94; omega
  have dy24sw98b : y24s ≠ w98b := by have := Mem.lt_of_get g95; omega
  have dy24fw98b : y24f ≠ w98b := by have := Mem.lt_of_get g91; omega
  have db38w98b : b38 ≠ w98b := by have := Mem.lt_of_get g96; omega
  have db50w98b : b50 ≠ w98b := by have := Mem.lt_of_get g97; omega
  have X115 := X89.trans E105
  obtain ⟨b116, M117, eb118, em119, g120, E121, hM122⟩ := new_t hM106 ⟨[], 3, 1, 0, true⟩
  have nb116 : M.next ≤ b116 := by rw [← eb118]; exact X115.next
  have dy12sb116 : y12s ≠ b116 := by have := Mem.lt_of_get g109; omega
  have dy12fb116 : y12f ≠ b116 := by have := Mem.lt_of_get g110; omega
  have dy24sb116 : y24s ≠ b116 := by have := Mem.lt_of_get g111; omega
  have dy24fb116 : y24f ≠ b116 := by have := Mem.lt_of_get g112; omega
  have db38b116 : b38 ≠ b116 := by have := Mem.lt_of_get g113; omega
  have db50b116 : b50 ≠ b116 := by have := Mem.lt_of_get g114; omega
  have dw98bb116 : w98b ≠ b116 := by have := Mem.lt_of_get w98h; omega
  have g123 := E121.old g109
  have g124 := E121.old g110
  have g125 := E121.old g111
  have g126 := E121.old g112
  have g127 := E121.old g113
  have g128 := E121.old g114
  have g129 := E121.old w98h
  have X130 := X115.trans E121
  obtain ⟨b131, M132, eb133, em134, g135, E136, hM137⟩ := new_t hM122 ⟨(wordI 4 (ws.take 12)).map i64, 3, 1, 0, true⟩
  have nb131 : M.next ≤ b131 := by rw [← eb133]; exact X130.next
  have dy12sb131 : y12s ≠ b131 := by have := Mem.lt_of_get g123; omega
  have dy12fb131 : y12f ≠ b131 := by have := Mem.lt_of_get g124; omega
  have dy24sb131 : y24s ≠ b131 := by have := Mem.lt_of_get g125; omega
  have dy24fb131 : y24f ≠ b131 := by have := Mem.lt_of_get g126; omega
  have db38b131 : b38 ≠ b131 := by have := Mem.lt_of_get g127; omega
  have db50b131 : b50 ≠ b131 := by have := Mem.lt_of_get g128; omega
  have dw98bb131 : w98b ≠ b131 := by have := Mem.lt_of_get g129; omega
  have db116b131 : b116 ≠ b131 := by have := Mem.lt_of_get g120; omega
  have g138 := E136.old g123
  have g139 := E136.old g124
  have g140 := E136.old g125
  have g141 := E136.old g126
  have g142 := E136.old g127
  have g143 := E136.old g128
  have g144 := E136.old g129
  have g145 := E136.old g120
  have X146 := X130.trans E136
  obtain ⟨w147, N148, M149, p150, l151, e152, E153, hM154, Q155, G156⟩ := call_t (P := Tryd.prog) (GL := [0]) (f := 17) hM137 (Con.gl (con17 bad 9 (by decide)))
  have g157 := E153.old g138
  have g158 := E153.old g139
  have g159 := E153.old g140
  have g160 := E153.old g141
  have g161 := E153.old g142
  have g162 := E153.old g143
  have g163 := E153.old g144
  have g164 := E153.old g145
  have g165 := E153.old g135
  have ew147 : w147 = (i64 (modI bad 9)) := (Option.some.inj Q155.1).symm
  subst ew147
  have nxM149 : M149.next = M132.next := by rw [← e152]; exact Q155.2
  have X166 := X146.trans E153
  obtain ⟨b167, M168, eb169, em170, g171, E172, hM173⟩ := new_t hM154 ⟨[(i64 (IntKind.wrap .i64 ((5 : Int) + (modI bad 9))))], 3, 1, 0, true⟩
  have nb167 : M.next ≤ b167 := by rw [← eb169]; exact X166.next
  have dy12sb167 : y12s ≠ b167 := by have := Mem.lt_of_get g157; omega
  have dy12fb167 : y12f ≠ b167 := by have := Mem.lt_of_get g158; omega
  have dy24sb167 : y24s ≠ b167 := by have := Mem.lt_of_get g159; omega
  have dy24fb167 : y24f ≠ b167 := by have := Mem.lt_of_get g160; omega
  have db38b167 : b38 ≠ b167 := by have := Mem.lt_of_get g161; omega
  have db50b167 : b50 ≠ b167 := by have := Mem.lt_of_get g162; omega
  have dw98bb167 : w98b ≠ b167 := by have := Mem.lt_of_get g163; omega
  have db116b167 : b116 ≠ b167 := by have := Mem.lt_of_get g164; omega
  have db131b167 : b131 ≠ b167 := by have := Mem.lt_of_get g165; omega
  have g174 := E172.old g157
  have g175 := E172.old g158
  have g176 := E172.old g159
  have g177 := E172.old g160
  have g178 := E172.old g161
  have g179 := E172.old g162
  have g180 := E172.old g163
  have g181 := E172.old g164
  have g182 := E172.old g165
  have X183 := X166.trans E172
  obtain ⟨b186, M187, eb188, em189, g190, X185, hM191, kp184⟩ := grow_t X183 nb131 hM173 ⟨(wordI 4 (ws.take 12)).map i64 ++ [(i64 (IntKind.wrap .i64 ((5 : Int) + (modI bad 9))))], 3, 1, 0, true⟩
  have nb186 : M.next ≤ b186 := by rw [← eb188]; exact X183.next
  have dy12sb186 : y12s ≠ b186 := by have := Mem.lt_of_get g174; omega
  have dy12fb186 : y12f ≠ b186 := by have := Mem.lt_of_get g175; omega
  have dy24sb186 : y24s ≠ b186 := by have := Mem.lt_of_get g176; omega
  have dy24fb186 : y24f ≠ b186 := by have := Mem.lt_of_get g177; omega
  have db38b186 : b38 ≠ b186 := by have := Mem.lt_of_get g178; omega
  have db50b186 : b50 ≠ b186 := by have := Mem.lt_of_get g179; omega
  have dw98bb186 : w98b ≠ b186 := by have := Mem.lt_of_get g180; omega
  have db116b186 : b116 ≠ b186 := by have := Mem.lt_of_get g181; omega
  have db131b186 : b131 ≠ b186 := by have := Mem.lt_of_get g182; omega
  have db167b186 : b167 ≠ b186 := by have := Mem.lt_of_get g171; omega
  have g192 := (kp184 _ dy12sb131 (Mem.lt_of_get g174)).trans g174
  have g193 := (kp184 _ dy12fb131 (Mem.lt_of_get g175)).trans g175
  have g194 := (kp184 _ dy24sb131 (Mem.lt_of_get g176)).trans g176
  have g195 := (kp184 _ dy24fb131 (Mem.lt_of_get g177)).trans g177
  have g196 := (kp184 _ db38b131 (Mem.lt_of_get g178)).trans g178
  have g197 := (kp184 _ db50b131 (Mem.lt_of_get g179)).trans g179
  have g198 := (kp184 _ dw98bb131 (Mem.lt_of_get g180)).trans g180
  have g199 := (kp184 _ db116b131 (Mem.lt_of_get g181)).trans g181
  have g200 := (kp184 _ (Ne.symm db131b167) (Mem.lt_of_get g171)).trans g171
  obtain ⟨R201, eR202⟩ : ∃ m : Mem, m = Mem.mk M187.blks M187.next M187.hide [] := ⟨_, rfl⟩
  have X203 : Ext (Mem.mk M.blks M.next M.hide []) R201 := by rw [eR202]; exact Ext.aside (X185)
  have lg204 : R201.log = [] := by rw [eR202]
  have nxR201 : R201.next = M187.next := by rw [eR202]
  have hM205 : MemOk R201 := by rw [eR202]; exact MemOk.log hM191
  have lty12sM187 : y12s < M187.next := by have h := Mem.lt_of_get g192; exact h
  have g206 : R201.get y12s = some ⟨(irows (rowsI (nOf x) ns y (nN x))).flatten, 31, 5, 0, true⟩ := by rw [eR202]; exact g192
  have lty12fM187 : y12f < M187.next := by have h := Mem.lt_of_get g193; exact h
  have g207 : R201.get y12f = some ⟨(brows (accsI y (nN x))).flatten, 4, 1, 0, true⟩ := by rw [eR202]; exact g193
  have lty24sM187 : y24s < M187.next := by have h := Mem.lt_of_get g194; exact h
  have g208 : R201.get y24s = some ⟨(irows (rowsI (nOf x) ns y (nN x))).flatten, 31, 5, 0, true⟩ := by rw [eR202]; exact g194
  have lty24fM187 : y24f < M187.next := by have h := Mem.lt_of_get g195; exact h
  have g209 : R201.get y24f = some ⟨(brows ((accsI y (nN x)).map (!·))).flatten, 4, 1, 0, true⟩ := by rw [eR202]; exact g195
  have ltb38M187 : b38 < M187.next := by have h := Mem.lt_of_get g196; exact h
  have g210 : R201.get b38 = some ⟨[(sli y12s 0 (nN x) (nN x)), (sli y12f 0 (nN x) (nN x))], 25, 2, 0, true⟩ := by rw [eR202]; exact g196
  have ltb50M187 : b50 < M187.next := by have h := Mem.lt_of_get g197; exact h
  have g211 : R201.get b50 = some ⟨[(sli y24s 0 (nN x) (nN x)), (sli y24f 0 (nN x) (nN x))], 25, 2, 0, true⟩ := by rw [eR202]; exact g197
  have ltw98bM187 : w98b < M187.next := by have h := Mem.lt_of_get g198; exact h
  have g212 : R201.get w98b = some ⟨(wordI 4 (ws.take 12)).map i64, 3, 1, 0, true⟩ := by rw [eR202]; exact g198
  have ltb116M187 : b116 < M187.next := by have h := Mem.lt_of_get g199; exact h
  have g213 : R201.get b116 = some ⟨[], 3, 1, 0, true⟩ := by rw [eR202]; exact g199
  have ltb167M187 : b167 < M187.next := by have h := Mem.lt_of_get g200; exact h
  have g214 : R201.get b167 = some ⟨[(i64 (IntKind.wrap .i64 ((5 : Int) + (modI bad 9))))], 3, 1, 0, true⟩ := by rw [eR202]; exact g200
  have ltb186M187 : b186 < M187.next := by have h := Mem.lt_of_get g190; exact h
  have g215 : R201.get b186 = some ⟨(wordI 4 (ws.take 12)).map i64 ++ [(i64 (IntKind.wrap .i64 ((5 : Int) + (modI bad 9))))], 3, 1, 0, true⟩ := by rw [eR202]; exact g190
  obtain ⟨w216, N217, M218, p219, l220, e221, E222, hM223, Q224, G225⟩ := call_t (P := Tryd.prog) (GL := [0]) (f := 21) hM205 (Con.gl (con21 (MemOk.log hM205) (mkAt g206 rfl g207 rfl).log (flat_part g212 (u := []) (v := (wordI 4 (ws.take 12))) (z := []) (by simp) rfl rfl hwl3).log))
  have g226 := E222.old g206
  have g227 := E222.old g207
  have g228 := E222.old g208
  have g229 := E222.old g209
  have g230 := E222.old g210
  have g231 := E222.old g211
  have g232 := E222.old g212
  have g233 := E222.old g213
  have g234 := E222.old g214
  have g235 := E222.old g215
  have ew216 := Qrun.val (mkAt g206 rfl g207 rfl).log (flat_part g212 (u := []) (v := (wordI 4 (ws.take 12))) (z := []) (by simp) rfl rfl hwl3).log Q224
  subst ew216
  have lg236 : M218.log = [] := by rw [← e221]; exact lg204
  have X237 := X203.trans E222
  have nx238 := E222.next
  obtain ⟨w239, N240, M241, p242, l243, e244, E245, hM246, Q247, G248⟩ := call_t (P := Tryd.prog) (GL := [0]) (f := 21) hM223 (Con.gl (con21 (MemOk.log hM223) (dfaAt_of g228 rfl (rowsI_wide _ _ _ _) (rowsI_len _ _ _ _) g229 rfl (by rw [List.length_map, accsI_len]) hn100 hn100).log (flat_part g232 (u := []) (v := (wordI 4 (ws.take 12))) (z := []) (by simp) rfl rfl hwl3).log))
  have g249 := E245.old g226
  have g250 := E245.old g227
  have g251 := E245.old g228
  have g252 := E245.old g229
  have g253 := E245.old g230
  have g254 := E245.old g231
  have g255 := E245.old g232
  have g256 := E245.old g233
  have g257 := E245.old g234
  have g258 := E245.old g235
  have ew239 := Qrun.val (dfaAt_of g228 rfl (rowsI_wide _ _ _ _) (rowsI_len _ _ _ _) g229 rfl (by rw [List.length_map, accsI_len]) hn100 hn100).log (flat_part g232 (u := []) (v := (wordI 4 (ws.take 12))) (z := []) (by simp) rfl rfl hwl3).log Q247
  subst ew239
  have lg259 : M241.log = [] := by rw [← e244]; exact lg236
  have X260 := X237.trans E245
  have nx261 := E245.next
  obtain ⟨w262, N263, M264, p265, l266, e267, E268, hM269, Q270, G271⟩ := call_t (P := Tryd.prog) (GL := [0]) (f := 21) hM246 (Con.gl (con21n (ws := ((wordI 4 (ws.take 12)) ++ [xz bad])) (hxs).2 (MemOk.log hM246) (mkAt g249 rfl g250 rfl).log (word_at (l := ((wordI 4 (ws.take 12)) ++ [xz bad])) g258 hxs (by simp only [List.length_append, List.length_cons, List.length_nil]; omega)).log))
  have g272 := E268.old g249
  have g273 := E268.old g250
  have g274 := E268.old g251
  have g275 := E268.old g252
  have g276 := E268.old g253
  have g277 := E268.old g254
  have g278 := E268.old g255
  have g279 := E268.old g256
  have g280 := E268.old g257
  have g281 := E268.old g258
  have ew262 := Qrun.val (mkAt g249 rfl g250 rfl).log (word_at (l := ((wordI 4 (ws.take 12)) ++ [xz bad])) g258 hxs (by simp only [List.length_append, List.length_cons, List.length_nil]; omega)).log Q270
  subst ew262
  have lg282 : M264.log = [] := by rw [← e267]; exact lg259
  have X283 := X260.trans E268
  have nx284 := E268.next
  obtain ⟨w285, N286, M287, p288, l289, e290, E291, hM292, Q293, G294⟩ := call_t (P := Tryd.prog) (GL := [0]) (f := 21) hM269 (Con.gl (con21n (ws := ((wordI 4 (ws.take 12)) ++ [xz bad])) (hxs).2 (MemOk.log hM269) (dfaAt_of g274 rfl (rowsI_wide _ _ _ _) (rowsI_len _ _ _ _) g275 rfl (by rw [List.length_map, accsI_len]) hn100 hn100).log (word_at (l := ((wordI 4 (ws.take 12)) ++ [xz bad])) g281 hxs (by simp only [List.length_append, List.length_cons, List.length_nil]; omega)).log))
  have g295 := E291.old g272
  have g296 := E291.old g273
  have g297 := E291.old g274
  have g298 := E291.old g275
  have g299 := E291.old g276
  have g300 := E291.old g277
  have g301 := E291.old g278
  have g302 := E291.old g279
  have g303 := E291.old g280
  have g304 := E291.old g281
  have ew285 := Qrun.val (dfaAt_of g274 rfl (rowsI_wide _ _ _ _) (rowsI_len _ _ _ _) g275 rfl (by rw [List.length_map, accsI_len]) hn100 hn100).log (word_at (l := ((wordI 4 (ws.take 12)) ++ [xz bad])) g281 hxs (by simp only [List.length_append, List.length_cons, List.length_nil]; omega)).log Q293
  subst ew285
  have lg305 : M287.log = [] := by rw [← e290]; exact lg282
  have X306 := X283.trans E291
  have nx307 := E291.next
  obtain ⟨w308, N309, M310, p311, l312, e313, E314, hM315, Q316, G317⟩ := call_t (P := Tryd.prog) (GL := [0]) (f := 16) hM292 (Con.gl (con16 (MemOk.log hM292) (dfaAt_of g297 rfl (rowsI_wide _ _ _ _) (rowsI_len _ _ _ _) g298 rfl (by rw [List.length_map, accsI_len]) hn100 hn100).log))
  have g318 := E314.old g295
  have g319 := E314.old g296
  have g320 := E314.old g297
  have g321 := E314.old g298
  have g322 := E314.old g299
  have g323 := E314.old g300
  have g324 := E314.old g301
  have g325 := E314.old g302
  have g326 := E314.old g303
  have g327 := E314.old g304
  have ew308 := Qchk.val (dfaAt_of g297 rfl (rowsI_wide _ _ _ _) (rowsI_len _ _ _ _) g298 rfl (by rw [List.length_map, accsI_len]) hn100 hn100).log Q316
  rw [flip_right] at ew308
  subst ew308
  have lg328 : M310.log = [] := by rw [← e313]; exact lg305
  have X329 := X306.trans E314
  have nx330 := E314.next
  obtain ⟨M331, ef332⟩ : ∃ m : Mem, m = (Mem.mk M310.blks M310.next M310.hide (M310.log ++ M187.log)) := ⟨_, rfl⟩
  have X333 : Ext M M331 := by rw [ef332]; exact Ext.join (X185) (X329)
  have hM334 : MemOk M331 := by rw [ef332]; exact hM315
  have g335 : M331.get y12s = some ⟨(irows (rowsI (nOf x) ns y (nN x))).flatten, 31, 5, 0, true⟩ := by rw [ef332]; exact g318
  have g336 : M331.get y12f = some ⟨(brows (accsI y (nN x))).flatten, 4, 1, 0, true⟩ := by rw [ef332]; exact g319
  have g337 : M331.get y24s = some ⟨(irows (rowsI (nOf x) ns y (nN x))).flatten, 31, 5, 0, true⟩ := by rw [ef332]; exact g320
  have g338 : M331.get y24f = some ⟨(brows ((accsI y (nN x)).map (!·))).flatten, 4, 1, 0, true⟩ := by rw [ef332]; exact g321
  have g339 : M331.get b38 = some ⟨[(sli y12s 0 (nN x) (nN x)), (sli y12f 0 (nN x) (nN x))], 25, 2, 0, true⟩ := by rw [ef332]; exact g322
  have g340 : M331.get b50 = some ⟨[(sli y24s 0 (nN x) (nN x)), (sli y24f 0 (nN x) (nN x))], 25, 2, 0, true⟩ := by rw [ef332]; exact g323
  have g341 : M331.get w98b = some ⟨(wordI 4 (ws.take 12)).map i64, 3, 1, 0, true⟩ := by rw [ef332]; exact g324
  have g342 : M331.get b116 = some ⟨[], 3, 1, 0, true⟩ := by rw [ef332]; exact g325
  have g343 : M331.get b167 = some ⟨[(i64 (IntKind.wrap .i64 ((5 : Int) + (modI bad 9))))], 3, 1, 0, true⟩ := by rw [ef332]; exact g326
  have g344 : M331.get b186 = some ⟨(wordI 4 (ws.take 12)).map i64 ++ [(i64 (IntKind.wrap .i64 ((5 : Int) + (modI bad 9))))], 3, 1, 0, true⟩ := by rw [ef332]; exact g327
  have hraw := w11_s_raw x a c ns y aw cw ws bad e M M3 M15 y12s y12f M27 y24s y24f b38 M39 b50 M51 M63 M75 M87 M101 w98b b116 M117 b131 M132 M149 b167 M168 b186 M187 M218 M241 M264 M287 M310
  have rw0 : Mem.mk M187.blks M187.next M187.hide [] = R201 := eR202.symm
  have rw1 : Mem.mk M218.blks M218.next M187.hide M218.log = M218 := by rw [(show M187.hide = M218.hide from ((X185).hide.trans (X237).hide.symm))]
  have rw2 : Mem.mk M218.blks M218.next (hides 0 [⟨2, 1, M187.next, M218.next⟩, ⟨0, 1, M187.next, M187.next⟩] ++ M187.hide) M218.log = hidx (hides 0 [⟨2, 1, M187.next, M218.next⟩, ⟨0, 1, M187.next, M187.next⟩]) M218 := by rw [(show M187.hide = M218.hide from ((X185).hide.trans (X237).hide.symm))]; rfl
  have rw3 : Mem.mk M241.blks M241.next M187.hide M241.log = M241 := by rw [(show M187.hide = M241.hide from ((X185).hide.trans (X260).hide.symm))]
  have rw4 : Mem.mk M264.blks M264.next M187.hide M264.log = M264 := by rw [(show M187.hide = M264.hide from ((X185).hide.trans (X283).hide.symm))]
  have rw5 : Mem.mk M287.blks M287.next M187.hide M287.log = M287 := by rw [(show M187.hide = M287.hide from ((X185).hide.trans (X306).hide.symm))]
  have rw6 : Mem.mk M310.blks M310.next M187.hide M310.log = M310 := by rw [(show M187.hide = M310.hide from ((X185).hide.trans (X329).hide.symm))]
  have rw7 : (Mem.mk M310.blks M310.next M187.hide (M310.log ++ M187.log)) = (Mem.mk M310.blks M310.next M310.hide (M310.log ++ M187.log)) := by rw [(show M187.hide = M310.hide from ((X185).hide.trans (X329).hide.symm))]
  have rw8 : (Mem.mk M310.blks M310.next M310.hide (M310.log ++ M187.log)) = M331 := ef332.symm
  try rw [rw0] at hraw
  try rw [rw1] at hraw
  try rw [rw2] at hraw
  try rw [rw3] at hraw
  try rw [rw4] at hraw
  try rw [rw5] at hraw
  try rw [rw6] at hraw
  try rw [rw7] at hraw
  try rw [rw8] at hraw
  have hE := Ev.told_tmp noNumP mixedP Tryd.func11 q11_ok (by kernel_rfl) rK11 (fun B => specsB_ok (hS11_12_14_16_17_18_21 B) (k := [(0, bone (.loop (q11.loopAt 0)) Tryd.f11.ntmps [3, 4, 11, 12, 13] [some (.slice aw ws.length cw), some (i64 bad), some (pt b38 0), some (pt b50 0), some (i64 0)] M75 .normal (fr [(3, (.slice aw ws.length cw)), (4, (i64 bad)), (11, (pt b38 0)), (12, (pt b50 0))]) M87)]) (fun p hp => by simp only [List.mem_cons, List.not_mem_nil, or_false] at hp; rcases hp with rfl <;> first | exact BlkOk.gl (BlkOk.loop noNumP mixedP hL88))) (fun _ h => blksF_one h) hraw (hk (q_call rfl p4 l5 e6) (hk (q_call rfl p16 l17 e18) (hk (q_call rfl p28 l29 e30) (hk (q_eq (by rw [← eb40, ← em41]; kernel_rfl) Nat.one_ne_zero) (hk (q_eq (by rw [← eb52, ← em53]; kernel_rfl) Nat.one_ne_zero) (hk (q_st q64) (hk (q_st q76) (hk (q_blk rfl) (hk (q_call rfl p102 l103 e104) (hk (q_eq (by rw [← eb118, ← em119]; kernel_rfl) Nat.one_ne_zero) (hk (q_app (by rw [← eb133, ← em134]; exact append_exact (w := 1) (y := 8) (n := (wordI 4 (ws.take 12)).length) (by kernel_rfl) (by kernel_rfl) (by kernel_rfl) (by decide) (by decide) hposw (by omega) g129 (by rw [List.drop_zero]; exact takeN_all (by rw [List.length_map, Nat.mul_one])) (all_i64 _) (by rw [List.length_map, Nat.mul_one]) g120 rfl rfl) Nat.one_ne_zero) (hk (q_call rfl p150 l151 e152) (hk (q_eq (by rw [← eb169, ← em170]; kernel_rfl) Nat.one_ne_zero) (hk (q_app (by rw [← eb188, ← em189]; exact append_more (w := 1) (by kernel_rfl) (by kernel_rfl) (by kernel_rfl) (y := 8) (by kernel_rfl) (by decide) (by decide) (by omega) g171 rfl rfl rfl g182 (by rw [List.length_map, Nat.mul_one]) rfl rfl rfl rfl) (Nat.succ_ne_zero _)) (hk (lA ⟨dA25, dS25⟩ g210 rfl) (hk (q_call rfl p219 l220 e221) (hk (lA ⟨dA25, dS25⟩ (hidx_get.2 ⟨hides_low (by simp; omega), g231⟩) rfl) (hk (q_lt ltb50M187) (hk (q_call rfl p242 l243 e244) (hk (bT hq1) (hk (lA ⟨dA25, dS25⟩ g253 rfl) (hk (bT hq1) (hk (bT hq1) (hk (q_call rfl p265 l266 e267) (hk (bT hq1) (hk (bT hq1) (hk (bT (by rw [hq2]; rfl)) (hk (lA ⟨dA25, dS25⟩ g277 rfl) (hk (bT (by rw [hq2]; rfl)) (hk (bT (by rw [hq2]; rfl)) (hk (q_call rfl p288 l289 e290) (hk (bT (by rw [hq2]; rfl)) (hk (bT (by rw [hq2]; rfl)) (hk (bT (by rw [hq3]; rfl)) (hk (lA ⟨dA25, dS25⟩ g300 rfl) (hk (bT (by rw [hq3]; rfl)) (hk (q_call rfl p311 l312 e313) (hk (bT (by rw [hq3]; rfl)) (hk (q_apart (by rw [lg328]; simp <;> omega)) hn)))))))))))))))))))))))))))))))))))))))
  exact ⟨_, hE⟩
end Go.Proofs.YtepgijgmnijdpaaDoor
