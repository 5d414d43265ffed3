/-
  What is proved: ProductKnown: in this network, by these fourteen expressions, it costs just so. For every argument.
-/
import Derived.Test.YtibgnnjicplphaaPMC_b
open Go Go.Am Go.Proofs
namespace Go.Proofs.Ytibgnnjicplphaa
set_option maxRecDepth 100000
noncomputable def D47_b : List Value × List ABlk × Value × List Nat × List ABlk := ([.agg ⟨[.int .i64 18, .int .i64 0, .int .i64 17, .slice (some ⟨0, 0, none⟩) 7 7, .slice (some ⟨1, 0, none⟩) 12 12]⟩, .int .i64 200], [⟨[.int .i64 1, .int .i64 2, .int .i64 31, .int .i64 3, .int .i64 4, .int .i64 31, .int .i64 5, .int .i64 6, .int .i64 31, .int .i64 7, .int .i64 8, .int .i64 31, .int .i64 9, .int .i64 10, .int .i64 31, .int .i64 11, .int .i64 12, .int .i64 31, .int .i64 15, .int .i64 16, .int .i64 16], 169, 3, 18, true⟩, ⟨[.int .i64 0, .int .i64 1, .int .i64 2, .int .i64 3, .int .i64 4, .int .i64 5, .int .i64 6, .int .i64 7, .int .i64 8, .int .i64 9, .int .i64 10, .int .i64 11, .int .i64 12, .int .i64 13, .int .i64 14, .int .i64 15, .int .i64 14, .int .i64 17, .int .i64 16, .int .i64 15, .int .i64 16, .int .i64 17, .int .i64 13, .int .i64 14], 186, 2, 22, true⟩], .tuple ⟨[.agg ⟨[.slice (some ⟨517, 0, none⟩) 9 9, .slice (some ⟨519, 0, none⟩) 9 9]⟩, .int .i64 0]⟩, [517, 519], [⟨[.int .i64 1, .int .i64 1, .int .i64 1, .int .i64 1, .int .i64 1, .int .i64 2, .int .i64 2, .int .i64 2, .int .i64 2, .int .i64 2, .int .i64 3, .int .i64 3, .int .i64 3, .int .i64 3, .int .i64 3, .int .i64 4, .int .i64 4, .int .i64 4, .int .i64 4, .int .i64 4, .int .i64 5, .int .i64 5, .int .i64 5, .int .i64 5, .int .i64 5, .int .i64 6, .int .i64 6, .int .i64 6, .int .i64 6, .int .i64 6, .int .i64 7, .int .i64 7, .int .i64 7, .int .i64 7, .int .i64 8, .int .i64 7, .int .i64 7, .int .i64 7, .int .i64 7, .int .i64 7, .int .i64 7, .int .i64 7, .int .i64 7, .int .i64 7, .int .i64 8], 61, 5, 0, true⟩, ⟨[.bool false, .bool false, .bool false, .bool false, .bool false, .bool false, .bool true, .bool false, .bool true], 4, 1, 0, true⟩])
noncomputable def K47_b : Memo := ⟨D47_b.1, D47_b.2.1, D47_b.2.2.1, D47_b.2.2.2.1, D47_b.2.2.2.2⟩
theorem st47_b : memoSt K47_b = true := by kernel_rfl
theorem run47_b : memoRunQ Try.prog SPC_b qts 100000 47 K47_b = some (K47_b.v0, K47_b.news.map some, true) := by kernel_rfl
theorem ok47_b (B : Bd) : SpecOk Try.prog [] B 47 (gMemo K47_b) := SpecOk.memoQ noNumP mixedP K47_b qokS (fun _ => rfl) specsC_b st47_b run47_b
end Go.Proofs.Ytibgnnjicplphaa
