/-
  What is proved: ProductKnown: in this network, by these fourteen expressions, it costs just so. For every argument.
-/
import Derived.Test.YtibgnnjicplphaaAmMemoQ
import Derived.Test.YtibgnnjicplphaaPB
import Derived.Test.YtibgnnjicplphaaPQ
open Go Go.Am Go.Proofs
namespace Go.Proofs.Ytibgnnjicplphaa
set_option maxRecDepth 100000
noncomputable def nfaV_b : Value := .agg ⟨[.int .i64 18, .int .i64 0, .int .i64 17, .slice (some ⟨0, 0, none⟩) 7 7, .slice (some ⟨1, 0, none⟩) 12 12]⟩
noncomputable def stB_b : ABlk := ⟨[.int .i64 1, .int .i64 2, .int .i64 31, .int .i64 3, .int .i64 4, .int .i64 31, .int .i64 5, .int .i64 6, .int .i64 31, .int .i64 7, .int .i64 8, .int .i64 31, .int .i64 9, .int .i64 10, .int .i64 31, .int .i64 11, .int .i64 12, .int .i64 31, .int .i64 15, .int .i64 16, .int .i64 16], 169, 3, 18, true⟩
noncomputable def frB_b : ABlk := ⟨[.int .i64 0, .int .i64 1, .int .i64 2, .int .i64 3, .int .i64 4, .int .i64 5, .int .i64 6, .int .i64 7, .int .i64 8, .int .i64 9, .int .i64 10, .int .i64 11, .int .i64 12, .int .i64 13, .int .i64 14, .int .i64 15, .int .i64 14, .int .i64 17, .int .i64 16, .int .i64 15, .int .i64 16, .int .i64 17, .int .i64 13, .int .i64 14], 186, 2, 22, true⟩
noncomputable def KC0_b : Memo := ⟨[nfaV_b, .slice (some ⟨2, 0, none⟩) 18 19], [stB_b, frB_b, ⟨[.bool true, .bool false, .bool false, .bool false, .bool false, .bool false, .bool false, .bool false, .bool false, .bool false, .bool false, .bool false, .bool false, .bool false, .bool false, .bool false, .bool false, .bool false], 4, 1, 0, true⟩], .slice (some ⟨5, 0, none⟩) 18 18, [5], [⟨[.bool true, .bool true, .bool false, .bool false, .bool false, .bool false, .bool false, .bool false, .bool false, .bool false, .bool false, .bool false, .bool false, .bool false, .bool false, .bool false, .bool false, .bool false], 4, 1, 0, true⟩]⟩
noncomputable def KC1_b : Memo := ⟨[nfaV_b, .slice (some ⟨2, 0, none⟩) 18 19], [stB_b, frB_b, ⟨[.bool false, .bool false, .bool true, .bool false, .bool false, .bool false, .bool false, .bool false, .bool false, .bool false, .bool false, .bool false, .bool false, .bool false, .bool false, .bool false, .bool false, .bool false], 4, 1, 0, true⟩], .slice (some ⟨5, 0, none⟩) 18 18, [5], [⟨[.bool false, .bool false, .bool true, .bool true, .bool false, .bool false, .bool false, .bool false, .bool false, .bool false, .bool false, .bool false, .bool false, .bool false, .bool false, .bool false, .bool false, .bool false], 4, 1, 0, true⟩]⟩
noncomputable def KC2_b : Memo := ⟨[nfaV_b, .slice (some ⟨2, 0, none⟩) 18 19], [stB_b, frB_b, ⟨[.bool false, .bool false, .bool false, .bool false, .bool true, .bool false, .bool false, .bool false, .bool false, .bool false, .bool false, .bool false, .bool false, .bool false, .bool false, .bool false, .bool false, .bool false], 4, 1, 0, true⟩], .slice (some ⟨5, 0, none⟩) 18 18, [5], [⟨[.bool false, .bool false, .bool false, .bool false, .bool true, .bool true, .bool false, .bool false, .bool false, .bool false, .bool false, .bool false, .bool false, .bool false, .bool false, .bool false, .bool false, .bool false], 4, 1, 0, true⟩]⟩
noncomputable def KC3_b : Memo := ⟨[nfaV_b, .slice (some ⟨2, 0, none⟩) 18 19], [stB_b, frB_b, ⟨[.bool false, .bool false, .bool false, .bool false, .bool false, .bool false, .bool true, .bool false, .bool false, .bool false, .bool false, .bool false, .bool false, .bool false, .bool false, .bool false, .bool false, .bool false], 4, 1, 0, true⟩], .slice (some ⟨5, 0, none⟩) 18 18, [5], [⟨[.bool false, .bool false, .bool false, .bool false, .bool false, .bool false, .bool true, .bool true, .bool false, .bool false, .bool false, .bool false, .bool false, .bool false, .bool false, .bool false, .bool false, .bool false], 4, 1, 0, true⟩]⟩
noncomputable def KC4_b : Memo := ⟨[nfaV_b, .slice (some ⟨2, 0, none⟩) 18 19], [stB_b, frB_b, ⟨[.bool false, .bool false, .bool false, .bool false, .bool false, .bool false, .bool false, .bool false, .bool true, .bool false, .bool false, .bool false, .bool false, .bool false, .bool false, .bool false, .bool false, .bool false], 4, 1, 0, true⟩], .slice (some ⟨5, 0, none⟩) 18 18, [5], [⟨[.bool false, .bool false, .bool false, .bool false, .bool false, .bool false, .bool false, .bool false, .bool true, .bool true, .bool false, .bool false, .bool false, .bool false, .bool false, .bool false, .bool false, .bool false], 4, 1, 0, true⟩]⟩
noncomputable def KC5_b : Memo := ⟨[nfaV_b, .slice (some ⟨2, 0, none⟩) 18 19], [stB_b, frB_b, ⟨[.bool false, .bool false, .bool false, .bool false, .bool false, .bool false, .bool false, .bool false, .bool false, .bool false, .bool true, .bool false, .bool false, .bool false, .bool false, .bool false, .bool false, .bool false], 4, 1, 0, true⟩], .slice (some ⟨5, 0, none⟩) 18 18, [5], [⟨[.bool false, .bool false, .bool false, .bool false, .bool false, .bool false, .bool false, .bool false, .bool false, .bool false, .bool true, .bool true, .bool false, .bool false, .bool false, .bool false, .bool false, .bool false], 4, 1, 0, true⟩]⟩
noncomputable def KC6_b : Memo := ⟨[nfaV_b, .slice (some ⟨2, 0, none⟩) 18 19], [stB_b, frB_b, ⟨[.bool false, .bool false, .bool false, .bool false, .bool false, .bool false, .bool false, .bool false, .bool false, .bool false, .bool false, .bool false, .bool true, .bool false, .bool false, .bool false, .bool false, .bool false], 4, 1, 0, true⟩], .slice (some ⟨5, 0, none⟩) 18 18, [5], [⟨[.bool false, .bool false, .bool false, .bool false, .bool false, .bool false, .bool false, .bool false, .bool false, .bool false, .bool false, .bool false, .bool true, .bool true, .bool true, .bool true, .bool false, .bool true], 4, 1, 0, true⟩]⟩
noncomputable def KC7_b : Memo := ⟨[nfaV_b, .slice (some ⟨2, 0, none⟩) 18 19], [stB_b, frB_b, ⟨[.bool false, .bool false, .bool false, .bool false, .bool false, .bool false, .bool false, .bool false, .bool false, .bool false, .bool false, .bool false, .bool false, .bool false, .bool false, .bool false, .bool false, .bool false], 4, 1, 0, true⟩], .slice (some ⟨5, 0, none⟩) 18 18, [5], [⟨[.bool false, .bool false, .bool false, .bool false, .bool false, .bool false, .bool false, .bool false, .bool false, .bool false, .bool false, .bool false, .bool false, .bool false, .bool false, .bool false, .bool false, .bool false], 4, 1, 0, true⟩]⟩
noncomputable def KC8_b : Memo := ⟨[nfaV_b, .slice (some ⟨2, 0, none⟩) 18 19], [stB_b, frB_b, ⟨[.bool false, .bool false, .bool false, .bool false, .bool false, .bool false, .bool false, .bool false, .bool false, .bool false, .bool false, .bool false, .bool false, .bool false, .bool false, .bool false, .bool true, .bool false], 4, 1, 0, true⟩], .slice (some ⟨5, 0, none⟩) 18 18, [5], [⟨[.bool false, .bool false, .bool false, .bool false, .bool false, .bool false, .bool false, .bool false, .bool false, .bool false, .bool false, .bool false, .bool false, .bool false, .bool false, .bool true, .bool true, .bool true], 4, 1, 0, true⟩]⟩
noncomputable def gC_b : List Value → Mem → Option (Value × Mem) := (orG (gMemo KC0_b) (orG (gMemo KC1_b) (orG (gMemo KC2_b) (orG (gMemo KC3_b) (orG (gMemo KC4_b) (orG (gMemo KC5_b) (orG (gMemo KC6_b) (orG (gMemo KC7_b) (orG (gMemo KC8_b) noG)))))))))
theorem stC0_b : memoSt KC0_b = true := by kernel_rfl
theorem runC0_b : memoRunQ Try.prog noSpecs qts 100000 101 KC0_b = some (KC0_b.v0, KC0_b.news.map some, true) := by kernel_rfl
theorem okC0_b (B : Bd) : SpecOk Try.prog [] B 101 (gMemo KC0_b) := SpecOk.memoQ noNumP mixedP KC0_b qokS (fun _ => rfl) (fun _ => SpecsOk.none) stC0_b runC0_b
theorem stC1_b : memoSt KC1_b = true := by kernel_rfl
theorem runC1_b : memoRunQ Try.prog noSpecs qts 100000 101 KC1_b = some (KC1_b.v0, KC1_b.news.map some, true) := by kernel_rfl
theorem okC1_b (B : Bd) : SpecOk Try.prog [] B 101 (gMemo KC1_b) := SpecOk.memoQ noNumP mixedP KC1_b qokS (fun _ => rfl) (fun _ => SpecsOk.none) stC1_b runC1_b
theorem stC2_b : memoSt KC2_b = true := by kernel_rfl
theorem runC2_b : memoRunQ Try.prog noSpecs qts 100000 101 KC2_b = some (KC2_b.v0, KC2_b.news.map some, true) := by kernel_rfl
theorem okC2_b (B : Bd) : SpecOk Try.prog [] B 101 (gMemo KC2_b) := SpecOk.memoQ noNumP mixedP KC2_b qokS (fun _ => rfl) (fun _ => SpecsOk.none) stC2_b runC2_b
theorem stC3_b : memoSt KC3_b = true := by kernel_rfl
theorem runC3_b : memoRunQ Try.prog noSpecs qts 100000 101 KC3_b = some (KC3_b.v0, KC3_b.news.map some, true) := by kernel_rfl
theorem okC3_b (B : Bd) : SpecOk Try.prog [] B 101 (gMemo KC3_b) := SpecOk.memoQ noNumP mixedP KC3_b qokS (fun _ => rfl) (fun _ => SpecsOk.none) stC3_b runC3_b
theorem stC4_b : memoSt KC4_b = true := by kernel_rfl
theorem runC4_b : memoRunQ Try.prog noSpecs qts 100000 101 KC4_b = some (KC4_b.v0, KC4_b.news.map some, true) := by kernel_rfl
theorem okC4_b (B : Bd) : SpecOk Try.prog [] B 101 (gMemo KC4_b) := SpecOk.memoQ noNumP mixedP KC4_b qokS (fun _ => rfl) (fun _ => SpecsOk.none) stC4_b runC4_b
theorem stC5_b : memoSt KC5_b = true := by kernel_rfl
theorem runC5_b : memoRunQ Try.prog noSpecs qts 100000 101 KC5_b = some (KC5_b.v0, KC5_b.news.map some, true) := by kernel_rfl
theorem okC5_b (B : Bd) : SpecOk Try.prog [] B 101 (gMemo KC5_b) := SpecOk.memoQ noNumP mixedP KC5_b qokS (fun _ => rfl) (fun _ => SpecsOk.none) stC5_b runC5_b
theorem stC6_b : memoSt KC6_b = true := by kernel_rfl
theorem runC6_b : memoRunQ Try.prog noSpecs qts 100000 101 KC6_b = some (KC6_b.v0, KC6_b.news.map some, true) := by kernel_rfl
theorem okC6_b (B : Bd) : SpecOk Try.prog [] B 101 (gMemo KC6_b) := SpecOk.memoQ noNumP mixedP KC6_b qokS (fun _ => rfl) (fun _ => SpecsOk.none) stC6_b runC6_b
theorem stC7_b : memoSt KC7_b = true := by kernel_rfl
theorem runC7_b : memoRunQ Try.prog noSpecs qts 100000 101 KC7_b = some (KC7_b.v0, KC7_b.news.map some, true) := by kernel_rfl
theorem okC7_b (B : Bd) : SpecOk Try.prog [] B 101 (gMemo KC7_b) := SpecOk.memoQ noNumP mixedP KC7_b qokS (fun _ => rfl) (fun _ => SpecsOk.none) stC7_b runC7_b
theorem stC8_b : memoSt KC8_b = true := by kernel_rfl
theorem runC8_b : memoRunQ Try.prog noSpecs qts 100000 101 KC8_b = some (KC8_b.v0, KC8_b.news.map some, true) := by kernel_rfl
theorem okC8_b (B : Bd) : SpecOk Try.prog [] B 101 (gMemo KC8_b) := SpecOk.memoQ noNumP mixedP KC8_b qokS (fun _ => rfl) (fun _ => SpecsOk.none) stC8_b runC8_b
theorem okC_b (B : Bd) : SpecOk Try.prog [] B 101 gC_b := (SpecOk.orG (okC0_b B) (SpecOk.orG (okC1_b B) (SpecOk.orG (okC2_b B) (SpecOk.orG (okC3_b B) (SpecOk.orG (okC4_b B) (SpecOk.orG (okC5_b B) (SpecOk.orG (okC6_b B) (SpecOk.orG (okC7_b B) (SpecOk.orG (okC8_b B) SpecOk.noG)))))))))
noncomputable def SPC_b : Specs := specs [(101, gC_b)]
theorem specsC_b (B : Bd) : SpecsOk Try.prog [] B SPC_b := specs_ok fun p hp => by
  simp only [List.mem_cons, List.not_mem_nil, or_false] at hp
  rcases hp with rfl
  exact okC_b B
end Go.Proofs.Ytibgnnjicplphaa
