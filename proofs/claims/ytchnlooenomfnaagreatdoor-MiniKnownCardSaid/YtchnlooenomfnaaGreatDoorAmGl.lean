/-
  THE ABSTRACT MACHINE: what was said without tables holds beside them.
-/
import Derived.Test.YtchnlooenomfnaaGreatDoorAmE
import Derived.Test.YtchnlooenomfnaaGreatDoorGAmRF
noncomputable section
namespace Go.Am
open Go
variable {P : Program} {GL : List Nat} {B : Bd}

theorem Rel.noGl {φ : Emb} {M : Mem} {w : World} (h : Rel P GL B φ M w) : Rel P [] B φ M w := ⟨h.blkA, h.sepA, fun g hg => (by cases hg), h.size, h.idsA, h.rnd⟩
theorem Post.gl {φ φ' : Emb} {M M' : Mem} {L : List Nat} {w w' : World} (hR : Rel P GL B φ M w) (h : Post P [] B φ φ' M M' L w w') : Post P GL B φ φ' M M' L w w' :=
  ⟨h.ext, h.next, ⟨h.rel.blkA, h.rel.sepA, fun g hg => let ⟨h1, e, h2, h3⟩ := hR.glob g hg; ⟨Nat.lt_of_lt_of_le h1 h.next, e, by rw [h.ext g (.inl h1)]; exact h2, h3⟩, h.rel.size, h.rel.idsA, h.rel.rnd⟩, h.fr, h.newb, h.logb⟩
theorem SpecOk.gl {f : FuncId} {g : List Value → Mem → Option (Value × Mem)} (h : SpecOk P [] B f g) : SpecOk P GL B f g :=
  ⟨h.abs, fun args M v M' hg φ w hR hG args' ha => (h.run args M v M' hg φ w hR.noGl hG args' ha).mono fun _ _ ⟨L, φ', v', h1, h2, h3, h4⟩ => ⟨L, φ', v', h1, h2, h3.gl hR, h4⟩⟩
theorem Ev.gl {f : FuncId} {args : List Value} {M M' : Mem} {v : Value} (h : Ev P [] f args M v M') : Ev P GL f args M v M' :=
  ⟨h.abs, fun B φ w hR hG args' ha => (h.run B φ w hR.noGl hG args' ha).mono fun _ _ ⟨L, φ', v', h1, h2, h3, h4⟩ => ⟨L, φ', v', h1, h2, h3.gl hR, h4⟩⟩
end Go.Am
end
