/-
  RegexDeep: thirty brackets in one another are read, one more is refused at its place; whatever the argument. Conditions: none beyond the card's own.
-/
import Derived.Test.YtlgkpnlppgihcaaDoorRQ4
import Derived.KernelRfl
import Derived.Test.YtlgkpnlppgihcaaDoorProg
open Go Go.Am Go.Proofs
namespace Go.Proofs.YtlgkpnlppgihcaaDoor
set_option maxRecDepth 100000
noncomputable def q62 : QC :=
  ((Go.Am.QC.plain
        [{ dst := Option.some 2, g := Go.Am.QG.no,
            op := Go.Op.assign (Go.Operand.const (Go.Value.string { data := { toList := [] } })), type := 9 }]).seq
    ((Go.Am.QC.plain
          [{ dst := Option.some 3, g := Go.Am.QG.no, op := Go.Op.move (Go.Operand.tmp 0), type := 3 },
            { dst := Option.some 4, g := Go.Am.QG.no,
              op :=
                Go.Op.call
                  { callee := Go.Callee.value (Go.Operand.func 70), args := { toList := [Go.Operand.tmp 3] },
                    argTypes := { toList := [3] } },
              type := 9 },
            { dst := Option.some 2, g := Go.Am.QG.no, op := Go.Op.assign (Go.Operand.tmp 4), type := 9 }]).seq
      Go.Am.QC.ret))
theorem q62_ok : bodyComp Tryd.prog 62 = some q62 := by kernel_rfl
noncomputable def q70 : QC :=
  ((Go.Am.QC.plain
        [{ dst := Option.some 2, g := Go.Am.QG.no,
            op := Go.Op.assign (Go.Operand.const (Go.Value.string { data := { toList := [] } })), type := 9 }]).seq
    ((Go.Am.QC.plain
          [{ dst := Option.some 3, g := Go.Am.QG.no, op := Go.Op.move (Go.Operand.tmp 0), type := 3 },
            { dst := Option.some 4, g := Go.Am.QG.no,
              op :=
                Go.Op.call
                  { callee := Go.Callee.value (Go.Operand.func 74),
                    args :=
                      { toList := [Go.Operand.tmp 3, Go.Operand.const (Go.Value.int Go.IntKind.i64 (Int.ofNat 10))] },
                    argTypes := { toList := [2, 3] } },
              type := 9 },
            { dst := Option.some 2, g := Go.Am.QG.no, op := Go.Op.assign (Go.Operand.tmp 4), type := 9 }]).seq
      Go.Am.QC.ret))
theorem q70_ok : bodyComp Tryd.prog 70 = some q70 := by kernel_rfl
noncomputable def q74 : QC :=
  ((Go.Am.QC.plain
        [{ dst := Option.some 4, g := Go.Am.QG.no,
            op := Go.Op.assign (Go.Operand.const (Go.Value.string { data := { toList := [] } })), type := 9 }]).seq
    (((Go.Am.QC.plain
              [{ dst := Option.some 10, g := Go.Am.QG.no, op := Go.Op.move (Go.Operand.tmp 1), type := 3 },
                { dst := Option.some 11, g := Go.Am.QG.no,
                  op :=
                    Go.Op.binOp Go.BinOp.eql 3 (Go.Operand.tmp 10)
                      (Go.Operand.const (Go.Value.int Go.IntKind.i64 (Int.ofNat 10))) 3,
                  type := 4 }]).seq
          (Go.Am.QC.cond (Go.Operand.tmp 11)
            (((Go.Am.QC.plain
                      [{ dst := Option.some 12, g := Go.Am.QG.no, op := Go.Op.move (Go.Operand.tmp 0), type := 2 },
                        { dst := Option.some 13, g := Go.Am.QG.no,
                          op :=
                            Go.Op.binOp Go.BinOp.leq 2 (Go.Operand.const (Go.Value.int Go.IntKind.i64 (Int.ofNat 0)))
                              (Go.Operand.tmp 12) 2,
                          type := 4 },
                        { dst := Option.some 14, g := Go.Am.QG.no, op := Go.Op.move (Go.Operand.tmp 13), type := 4 },
                        { dst := Option.some 15, g := Go.Am.QG.at 14 Bool.true, op := Go.Op.move (Go.Operand.tmp 0),
                          type := 2 },
                        { dst := Option.some 16, g := Go.Am.QG.at 14 Bool.true,
                          op :=
                            Go.Op.binOp Go.BinOp.lss 2 (Go.Operand.tmp 15)
                              (Go.Operand.const (Go.Value.int Go.IntKind.i64 (Int.ofNat 100))) 2,
                          type := 4 },
                        { dst := Option.some 17, g := Go.Am.QG.no,
                          op :=
                            Go.Op.pick (Go.Operand.tmp 14) (Go.Operand.tmp 16)
                              (Go.Operand.const (Go.Value.bool Bool.false)),
                          type := 4 }]).seq
                  (Go.Am.QC.cond (Go.Operand.tmp 17)
                    ((Go.Am.QC.plain
                          [{ dst := Option.some 18, g := Go.Am.QG.no, op := Go.Op.move (Go.Operand.tmp 0), type := 2 },
                            { dst := Option.some 19, g := Go.Am.QG.no,
                              op :=
                                Go.Op.call
                                  { callee := Go.Callee.value (Go.Operand.func 79),
                                    args := { toList := [Go.Operand.tmp 18] }, argTypes := { toList := [3] } },
                              type := 9 },
                            { dst := Option.some 4, g := Go.Am.QG.no, op := Go.Op.assign (Go.Operand.tmp 19),
                              type := 9 }]).seq
                      Go.Am.QC.ret)
                    Go.Am.QC.skip)).seq
              ((Go.Am.QC.plain [{ dst := Option.some 5, g := Go.Am.QG.no, op := Go.Op.alloc 104, type := 0 }]).seq
                ((Go.Am.QC.plain
                      [{ dst := Option.some 20, g := Go.Am.QG.no, op := Go.Op.move (Go.Operand.tmp 0), type := 2 },
                        { dst := Option.some 21, g := Go.Am.QG.no, op := Go.Op.convert 2 105 (Go.Operand.tmp 20),
                          type := 105 },
                        { dst := Option.some 6, g := Go.Am.QG.no, op := Go.Op.assign (Go.Operand.tmp 21),
                          type := 105 }]).seq
                  (((Go.Am.QC.plain
                            [{ dst := Option.some 22, g := Go.Am.QG.no, op := Go.Op.move (Go.Operand.tmp 0),
                                type := 2 },
                              { dst := Option.some 23, g := Go.Am.QG.no,
                                op :=
                                  Go.Op.binOp Go.BinOp.lss 2 (Go.Operand.tmp 22)
                                    (Go.Operand.const (Go.Value.int Go.IntKind.i64 (Int.ofNat 0))) 2,
                                type := 4 }]).seq
                        (Go.Am.QC.cond (Go.Operand.tmp 23)
                          (Go.Am.QC.plain
                            [{ dst := Option.some 24, g := Go.Am.QG.no, op := Go.Op.move (Go.Operand.tmp 6),
                                type := 105 },
                              { dst := Option.some 25, g := Go.Am.QG.no,
                                op := Go.Op.unOp Go.UnOp.neg 105 (Go.Operand.tmp 24), type := 105 },
                              { dst := Option.some 6, g := Go.Am.QG.no, op := Go.Op.assign (Go.Operand.tmp 25),
                                type := 105 }])
                          Go.Am.QC.skip)).seq
                    ((Go.Am.QC.plain
                          [{ dst := Option.some 26, g := Go.Am.QG.no, op := Go.Op.move (Go.Operand.tmp 6),
                              type := 105 },
                            { dst := Option.some 27, g := Go.Am.QG.no,
                              op :=
                                Go.Op.call
                                  { callee := Go.Callee.value (Go.Operand.func 80),
                                    args := { toList := [Go.Operand.tmp 26] }, argTypes := { toList := [105] } },
                              type := 3 },
                            { dst := Option.some 7, g := Go.Am.QG.no, op := Go.Op.assign (Go.Operand.tmp 27),
                              type := 3 }]).seq
                      ((Go.Am.QC.plain
                            [{ dst := Option.some 28, g := Go.Am.QG.no, op := Go.Op.move (Go.Operand.tmp 7),
                                type := 3 },
                              { dst := Option.some 29, g := Go.Am.QG.no,
                                op :=
                                  Go.Op.binOp Go.BinOp.add 3
                                    (Go.Operand.const (Go.Value.int Go.IntKind.i64 (Int.ofNat 1))) (Go.Operand.tmp 28)
                                    3,
                                type := 3 },
                              { dst := Option.some 30, g := Go.Am.QG.no,
                                op :=
                                  Go.Op.slice 104 (Go.Operand.tmp 5)
                                    (Option.some (Go.Operand.const (Go.Value.int Go.IntKind.i64 (Int.ofNat 1))))
                                    (Option.some (Go.Operand.tmp 29)) Option.none,
                                type := 37 },
                              { dst := Option.some 31, g := Go.Am.QG.no, op := Go.Op.move (Go.Operand.tmp 6),
                                type := 105 },
                              { dst := Option.some 32, g := Go.Am.QG.no,
                                op :=
                                  Go.Op.call
                                    { callee := Go.Callee.value (Go.Operand.func 81),
                                      args := { toList := [Go.Operand.tmp 30, Go.Operand.tmp 31] },
                                      argTypes := { toList := [37, 105] } },
                                type := 0 }]).seq
                        (((Go.Am.QC.plain
                                  [{ dst := Option.some 33, g := Go.Am.QG.no, op := Go.Op.move (Go.Operand.tmp 0),
                                      type := 2 },
                                    { dst := Option.some 34, g := Go.Am.QG.no,
                                      op :=
                                        Go.Op.binOp Go.BinOp.lss 2 (Go.Operand.tmp 33)
                                          (Go.Operand.const (Go.Value.int Go.IntKind.i64 (Int.ofNat 0))) 2,
                                      type := 4 }]).seq
                              (Go.Am.QC.cond (Go.Operand.tmp 34)
                                ((Go.Am.QC.plain
                                      [{ dst := Option.some 35, g := Go.Am.QG.no,
                                          op :=
                                            Go.Op.indexAddr 104 (Go.Operand.tmp 5)
                                              (Go.Operand.const (Go.Value.int Go.IntKind.i64 (Int.ofNat 0))),
                                          type := 0 },
                                        { dst := Option.none, g := Go.Am.QG.no,
                                          op :=
                                            Go.Op.store 5 (Go.Operand.tmp 35)
                                              (Go.Operand.const (Go.Value.int Go.IntKind.u8 (Int.ofNat 45))),
                                          type := 0 }]).seq
                                  ((Go.Am.QC.plain
                                        [{ dst := Option.some 36, g := Go.Am.QG.no, op := Go.Op.move (Go.Operand.tmp 7),
                                            type := 3 },
                                          { dst := Option.some 37, g := Go.Am.QG.no,
                                            op :=
                                              Go.Op.binOp Go.BinOp.add 3
                                                (Go.Operand.const (Go.Value.int Go.IntKind.i64 (Int.ofNat 1)))
                                                (Go.Operand.tmp 36) 3,
                                            type := 3 },
                                          { dst := Option.some 38, g := Go.Am.QG.no,
                                            op :=
                                              Go.Op.slice 104 (Go.Operand.tmp 5) Option.none
                                                (Option.some (Go.Operand.tmp 37)) Option.none,
                                            type := 37 },
                                          { dst := Option.some 39, g := Go.Am.QG.no,
                                            op := Go.Op.convert 37 9 (Go.Operand.tmp 38), type := 9 },
                                          { dst := Option.some 4, g := Go.Am.QG.no,
                                            op := Go.Op.assign (Go.Operand.tmp 39), type := 9 }]).seq
                                    Go.Am.QC.ret))
                                Go.Am.QC.skip)).seq
                          ((Go.Am.QC.plain
                                [{ dst := Option.some 40, g := Go.Am.QG.no, op := Go.Op.move (Go.Operand.tmp 7),
                                    type := 3 },
                                  { dst := Option.some 41, g := Go.Am.QG.no,
                                    op :=
                                      Go.Op.binOp Go.BinOp.add 3
                                        (Go.Operand.const (Go.Value.int Go.IntKind.i64 (Int.ofNat 1)))
                                        (Go.Operand.tmp 40) 3,
                                    type := 3 },
                                  { dst := Option.some 42, g := Go.Am.QG.no,
                                    op :=
                                      Go.Op.slice 104 (Go.Operand.tmp 5)
                                        (Option.some (Go.Operand.const (Go.Value.int Go.IntKind.i64 (Int.ofNat 1))))
                                        (Option.some (Go.Operand.tmp 41)) Option.none,
                                    type := 37 },
                                  { dst := Option.some 43, g := Go.Am.QG.no,
                                    op := Go.Op.convert 37 9 (Go.Operand.tmp 42), type := 9 },
                                  { dst := Option.some 4, g := Go.Am.QG.no, op := Go.Op.assign (Go.Operand.tmp 43),
                                    type := 9 }]).seq
                            Go.Am.QC.ret))))))))
            Go.Am.QC.skip)).seq
      ((Go.Am.QC.plain
            [{ dst := Option.some 45, g := Go.Am.QG.no, op := Go.Op.move (Go.Operand.tmp 0), type := 2 },
              { dst := Option.some 46, g := Go.Am.QG.no, op := Go.Op.convert 2 105 (Go.Operand.tmp 45), type := 105 },
              { dst := Option.some 47, g := Go.Am.QG.no, op := Go.Op.move (Go.Operand.tmp 1), type := 3 },
              { dst := Option.some 48, g := Go.Am.QG.no, op := Go.Op.move (Go.Operand.tmp 0), type := 2 },
              { dst := Option.some 49, g := Go.Am.QG.no,
                op :=
                  Go.Op.binOp Go.BinOp.lss 2 (Go.Operand.tmp 48)
                    (Go.Operand.const (Go.Value.int Go.IntKind.i64 (Int.ofNat 0))) 2,
                type := 4 },
              { dst := Option.some 50, g := Go.Am.QG.no,
                op :=
                  Go.Op.call
                    { callee := Go.Callee.value (Go.Operand.func 82),
                      args :=
                        {
                          toList :=
                            [Go.Operand.const (Go.Value.slice Option.none 0 0), Go.Operand.tmp 46, Go.Operand.tmp 47,
                              Go.Operand.tmp 49, Go.Operand.const (Go.Value.bool Bool.false)] },
                      argTypes := { toList := [37, 105, 3, 4, 4] } },
                type := 108 },
              { dst := Option.some 44, g := Go.Am.QG.no, op := Go.Op.move (Go.Operand.tmp 50), type := 108 },
              { dst := Option.some 51, g := Go.Am.QG.no, op := Go.Op.extract (Go.Operand.tmp 44) 0, type := 37 },
              { dst := Option.some 52, g := Go.Am.QG.no, op := Go.Op.extract (Go.Operand.tmp 44) 1, type := 9 },
              { dst := Option.some 8, g := Go.Am.QG.no, op := Go.Op.assign (Go.Operand.tmp 51), type := 37 },
              { dst := Option.some 9, g := Go.Am.QG.no, op := Go.Op.assign (Go.Operand.tmp 52), type := 9 }]).seq
        ((Go.Am.QC.plain
              [{ dst := Option.some 53, g := Go.Am.QG.no, op := Go.Op.move (Go.Operand.tmp 9), type := 9 },
                { dst := Option.some 4, g := Go.Am.QG.no, op := Go.Op.assign (Go.Operand.tmp 53), type := 9 }]).seq
          Go.Am.QC.ret))))
theorem q74_ok : bodyComp Tryd.prog 74 = some q74 := by kernel_rfl
noncomputable def q79 : QC :=
  ((Go.Am.QC.plain
        [{ dst := Option.some 2, g := Go.Am.QG.no,
            op := Go.Op.assign (Go.Operand.const (Go.Value.string { data := { toList := [] } })), type := 9 }]).seq
    (((Go.Am.QC.plain
              [{ dst := Option.some 3, g := Go.Am.QG.no, op := Go.Op.move (Go.Operand.tmp 0), type := 3 },
                { dst := Option.some 4, g := Go.Am.QG.no,
                  op :=
                    Go.Op.binOp Go.BinOp.lss 3 (Go.Operand.tmp 3)
                      (Go.Operand.const (Go.Value.int Go.IntKind.i64 (Int.ofNat 10))) 3,
                  type := 4 }]).seq
          (Go.Am.QC.cond (Go.Operand.tmp 4)
            ((Go.Am.QC.plain
                  [{ dst := Option.some 5, g := Go.Am.QG.no, op := Go.Op.move (Go.Operand.tmp 0), type := 3 },
                    { dst := Option.some 6, g := Go.Am.QG.no, op := Go.Op.move (Go.Operand.tmp 0), type := 3 },
                    { dst := Option.some 7, g := Go.Am.QG.no,
                      op :=
                        Go.Op.binOp Go.BinOp.add 3 (Go.Operand.tmp 6)
                          (Go.Operand.const (Go.Value.int Go.IntKind.i64 (Int.ofNat 1))) 3,
                      type := 3 },
                    { dst := Option.some 8, g := Go.Am.QG.no,
                      op :=
                        Go.Op.slice 9
                          (Go.Operand.const
                            (Go.Value.string
                              {
                                data :=
                                  {
                                    toList :=
                                      [{ toBitVec := { toFin := ⟨48, Nat.mod_lt 48 (BitVec.ofNat._proof_1 8)⟩ } },
                                        { toBitVec := { toFin := ⟨49, Nat.mod_lt 49 (BitVec.ofNat._proof_1 8)⟩ } },
                                        { toBitVec := { toFin := ⟨50, Nat.mod_lt 50 (BitVec.ofNat._proof_1 8)⟩ } },
                                        { toBitVec := { toFin := ⟨51, Nat.mod_lt 51 (BitVec.ofNat._proof_1 8)⟩ } },
                                        { toBitVec := { toFin := ⟨52, Nat.mod_lt 52 (BitVec.ofNat._proof_1 8)⟩ } },
                                        { toBitVec := { toFin := ⟨53, Nat.mod_lt 53 (BitVec.ofNat._proof_1 8)⟩ } },
                                        { toBitVec := { toFin := ⟨54, Nat.mod_lt 54 (BitVec.ofNat._proof_1 8)⟩ } },
                                        { toBitVec := { toFin := ⟨55, Nat.mod_lt 55 (BitVec.ofNat._proof_1 8)⟩ } },
                                        { toBitVec := { toFin := ⟨56, Nat.mod_lt 56 (BitVec.ofNat._proof_1 8)⟩ } },
                                        { toBitVec := { toFin := ⟨57, Nat.mod_lt 57 (BitVec.ofNat._proof_1 8)⟩ } },
                                        { toBitVec := { toFin := ⟨97, Nat.mod_lt 97 (BitVec.ofNat._proof_1 8)⟩ } },
                                        { toBitVec := { toFin := ⟨98, Nat.mod_lt 98 (BitVec.ofNat._proof_1 8)⟩ } },
                                        { toBitVec := { toFin := ⟨99, Nat.mod_lt 99 (BitVec.ofNat._proof_1 8)⟩ } },
                                        { toBitVec := { toFin := ⟨100, Nat.mod_lt 100 (BitVec.ofNat._proof_1 8)⟩ } },
                                        { toBitVec := { toFin := ⟨101, Nat.mod_lt 101 (BitVec.ofNat._proof_1 8)⟩ } },
                                        { toBitVec := { toFin := ⟨102, Nat.mod_lt 102 (BitVec.ofNat._proof_1 8)⟩ } },
                                        { toBitVec := { toFin := ⟨103, Nat.mod_lt 103 (BitVec.ofNat._proof_1 8)⟩ } },
                                        { toBitVec := { toFin := ⟨104, Nat.mod_lt 104 (BitVec.ofNat._proof_1 8)⟩ } },
                                        { toBitVec := { toFin := ⟨105, Nat.mod_lt 105 (BitVec.ofNat._proof_1 8)⟩ } },
                                        { toBitVec := { toFin := ⟨106, Nat.mod_lt 106 (BitVec.ofNat._proof_1 8)⟩ } },
                                        { toBitVec := { toFin := ⟨107, Nat.mod_lt 107 (BitVec.ofNat._proof_1 8)⟩ } },
                                        { toBitVec := { toFin := ⟨108, Nat.mod_lt 108 (BitVec.ofNat._proof_1 8)⟩ } },
                                        { toBitVec := { toFin := ⟨109, Nat.mod_lt 109 (BitVec.ofNat._proof_1 8)⟩ } },
                                        { toBitVec := { toFin := ⟨110, Nat.mod_lt 110 (BitVec.ofNat._proof_1 8)⟩ } },
                                        { toBitVec := { toFin := ⟨111, Nat.mod_lt 111 (BitVec.ofNat._proof_1 8)⟩ } },
                                        { toBitVec := { toFin := ⟨112, Nat.mod_lt 112 (BitVec.ofNat._proof_1 8)⟩ } },
                                        { toBitVec := { toFin := ⟨113, Nat.mod_lt 113 (BitVec.ofNat._proof_1 8)⟩ } },
                                        { toBitVec := { toFin := ⟨114, Nat.mod_lt 114 (BitVec.ofNat._proof_1 8)⟩ } },
                                        { toBitVec := { toFin := ⟨115, Nat.mod_lt 115 (BitVec.ofNat._proof_1 8)⟩ } },
                                        { toBitVec := { toFin := ⟨116, Nat.mod_lt 116 (BitVec.ofNat._proof_1 8)⟩ } },
                                        { toBitVec := { toFin := ⟨117, Nat.mod_lt 117 (BitVec.ofNat._proof_1 8)⟩ } },
                                        { toBitVec := { toFin := ⟨118, Nat.mod_lt 118 (BitVec.ofNat._proof_1 8)⟩ } },
                                        { toBitVec := { toFin := ⟨119, Nat.mod_lt 119 (BitVec.ofNat._proof_1 8)⟩ } },
                                        { toBitVec := { toFin := ⟨120, Nat.mod_lt 120 (BitVec.ofNat._proof_1 8)⟩ } },
                                        { toBitVec := { toFin := ⟨121, Nat.mod_lt 121 (BitVec.ofNat._proof_1 8)⟩ } },
                                        {
                                          toBitVec :=
                                            { toFin := ⟨122, Nat.mod_lt 122 (BitVec.ofNat._proof_1 8)⟩ } }] } }))
                          (Option.some (Go.Operand.tmp 5)) (Option.some (Go.Operand.tmp 7)) Option.none,
                      type := 9 },
                    { dst := Option.some 2, g := Go.Am.QG.no, op := Go.Op.assign (Go.Operand.tmp 8), type := 9 }]).seq
              Go.Am.QC.ret)
            Go.Am.QC.skip)).seq
      ((Go.Am.QC.plain
            [{ dst := Option.some 9, g := Go.Am.QG.no, op := Go.Op.move (Go.Operand.tmp 0), type := 3 },
              { dst := Option.some 10, g := Go.Am.QG.no,
                op :=
                  Go.Op.binOp Go.BinOp.mul 3 (Go.Operand.tmp 9)
                    (Go.Operand.const (Go.Value.int Go.IntKind.i64 (Int.ofNat 2))) 3,
                type := 3 },
              { dst := Option.some 11, g := Go.Am.QG.no, op := Go.Op.move (Go.Operand.tmp 0), type := 3 },
              { dst := Option.some 12, g := Go.Am.QG.no,
                op :=
                  Go.Op.binOp Go.BinOp.mul 3 (Go.Operand.tmp 11)
                    (Go.Operand.const (Go.Value.int Go.IntKind.i64 (Int.ofNat 2))) 3,
                type := 3 },
              { dst := Option.some 13, g := Go.Am.QG.no,
                op :=
                  Go.Op.binOp Go.BinOp.add 3 (Go.Operand.tmp 12)
                    (Go.Operand.const (Go.Value.int Go.IntKind.i64 (Int.ofNat 2))) 3,
                type := 3 },
              { dst := Option.some 14, g := Go.Am.QG.no,
                op :=
                  Go.Op.slice 9
                    (Go.Operand.const
                      (Go.Value.string
                        {
                          data :=
                            {
                              toList :=
                                [{ toBitVec := { toFin := ⟨48, Nat.mod_lt 48 (BitVec.ofNat._proof_1 8)⟩ } },
                                  { toBitVec := { toFin := ⟨48, Nat.mod_lt 48 (BitVec.ofNat._proof_1 8)⟩ } },
                                  { toBitVec := { toFin := ⟨48, Nat.mod_lt 48 (BitVec.ofNat._proof_1 8)⟩ } },
                                  { toBitVec := { toFin := ⟨49, Nat.mod_lt 49 (BitVec.ofNat._proof_1 8)⟩ } },
                                  { toBitVec := { toFin := ⟨48, Nat.mod_lt 48 (BitVec.ofNat._proof_1 8)⟩ } },
                                  { toBitVec := { toFin := ⟨50, Nat.mod_lt 50 (BitVec.ofNat._proof_1 8)⟩ } },
                                  { toBitVec := { toFin := ⟨48, Nat.mod_lt 48 (BitVec.ofNat._proof_1 8)⟩ } },
                                  { toBitVec := { toFin := ⟨51, Nat.mod_lt 51 (BitVec.ofNat._proof_1 8)⟩ } },
                                  { toBitVec := { toFin := ⟨48, Nat.mod_lt 48 (BitVec.ofNat._proof_1 8)⟩ } },
                                  { toBitVec := { toFin := ⟨52, Nat.mod_lt 52 (BitVec.ofNat._proof_1 8)⟩ } },
                                  { toBitVec := { toFin := ⟨48, Nat.mod_lt 48 (BitVec.ofNat._proof_1 8)⟩ } },
                                  { toBitVec := { toFin := ⟨53, Nat.mod_lt 53 (BitVec.ofNat._proof_1 8)⟩ } },
                                  { toBitVec := { toFin := ⟨48, Nat.mod_lt 48 (BitVec.ofNat._proof_1 8)⟩ } },
                                  { toBitVec := { toFin := ⟨54, Nat.mod_lt 54 (BitVec.ofNat._proof_1 8)⟩ } },
                                  { toBitVec := { toFin := ⟨48, Nat.mod_lt 48 (BitVec.ofNat._proof_1 8)⟩ } },
                                  { toBitVec := { toFin := ⟨55, Nat.mod_lt 55 (BitVec.ofNat._proof_1 8)⟩ } },
                                  { toBitVec := { toFin := ⟨48, Nat.mod_lt 48 (BitVec.ofNat._proof_1 8)⟩ } },
                                  { toBitVec := { toFin := ⟨56, Nat.mod_lt 56 (BitVec.ofNat._proof_1 8)⟩ } },
                                  { toBitVec := { toFin := ⟨48, Nat.mod_lt 48 (BitVec.ofNat._proof_1 8)⟩ } },
                                  { toBitVec := { toFin := ⟨57, Nat.mod_lt 57 (BitVec.ofNat._proof_1 8)⟩ } },
                                  { toBitVec := { toFin := ⟨49, Nat.mod_lt 49 (BitVec.ofNat._proof_1 8)⟩ } },
                                  { toBitVec := { toFin := ⟨48, Nat.mod_lt 48 (BitVec.ofNat._proof_1 8)⟩ } },
                                  { toBitVec := { toFin := ⟨49, Nat.mod_lt 49 (BitVec.ofNat._proof_1 8)⟩ } },
                                  { toBitVec := { toFin := ⟨49, Nat.mod_lt 49 (BitVec.ofNat._proof_1 8)⟩ } },
                                  { toBitVec := { toFin := ⟨49, Nat.mod_lt 49 (BitVec.ofNat._proof_1 8)⟩ } },
                                  { toBitVec := { toFin := ⟨50, Nat.mod_lt 50 (BitVec.ofNat._proof_1 8)⟩ } },
                                  { toBitVec := { toFin := ⟨49, Nat.mod_lt 49 (BitVec.ofNat._proof_1 8)⟩ } },
                                  { toBitVec := { toFin := ⟨51, Nat.mod_lt 51 (BitVec.ofNat._proof_1 8)⟩ } },
                                  { toBitVec := { toFin := ⟨49, Nat.mod_lt 49 (BitVec.ofNat._proof_1 8)⟩ } },
                                  { toBitVec := { toFin := ⟨52, Nat.mod_lt 52 (BitVec.ofNat._proof_1 8)⟩ } },
                                  { toBitVec := { toFin := ⟨49, Nat.mod_lt 49 (BitVec.ofNat._proof_1 8)⟩ } },
                                  { toBitVec := { toFin := ⟨53, Nat.mod_lt 53 (BitVec.ofNat._proof_1 8)⟩ } },
                                  { toBitVec := { toFin := ⟨49, Nat.mod_lt 49 (BitVec.ofNat._proof_1 8)⟩ } },
                                  { toBitVec := { toFin := ⟨54, Nat.mod_lt 54 (BitVec.ofNat._proof_1 8)⟩ } },
                                  { toBitVec := { toFin := ⟨49, Nat.mod_lt 49 (BitVec.ofNat._proof_1 8)⟩ } },
                                  { toBitVec := { toFin := ⟨55, Nat.mod_lt 55 (BitVec.ofNat._proof_1 8)⟩ } },
                                  { toBitVec := { toFin := ⟨49, Nat.mod_lt 49 (BitVec.ofNat._proof_1 8)⟩ } },
                                  { toBitVec := { toFin := ⟨56, Nat.mod_lt 56 (BitVec.ofNat._proof_1 8)⟩ } },
                                  { toBitVec := { toFin := ⟨49, Nat.mod_lt 49 (BitVec.ofNat._proof_1 8)⟩ } },
                                  { toBitVec := { toFin := ⟨57, Nat.mod_lt 57 (BitVec.ofNat._proof_1 8)⟩ } },
                                  { toBitVec := { toFin := ⟨50, Nat.mod_lt 50 (BitVec.ofNat._proof_1 8)⟩ } },
                                  { toBitVec := { toFin := ⟨48, Nat.mod_lt 48 (BitVec.ofNat._proof_1 8)⟩ } },
                                  { toBitVec := { toFin := ⟨50, Nat.mod_lt 50 (BitVec.ofNat._proof_1 8)⟩ } },
                                  { toBitVec := { toFin := ⟨49, Nat.mod_lt 49 (BitVec.ofNat._proof_1 8)⟩ } },
                                  { toBitVec := { toFin := ⟨50, Nat.mod_lt 50 (BitVec.ofNat._proof_1 8)⟩ } },
                                  { toBitVec := { toFin := ⟨50, Nat.mod_lt 50 (BitVec.ofNat._proof_1 8)⟩ } },
                                  { toBitVec := { toFin := ⟨50, Nat.mod_lt 50 (BitVec.ofNat._proof_1 8)⟩ } },
                                  { toBitVec := { toFin := ⟨51, Nat.mod_lt 51 (BitVec.ofNat._proof_1 8)⟩ } },
                                  { toBitVec := { toFin := ⟨50, Nat.mod_lt 50 (BitVec.ofNat._proof_1 8)⟩ } },
                                  { toBitVec := { toFin := ⟨52, Nat.mod_lt 52 (BitVec.ofNat._proof_1 8)⟩ } },
                                  { toBitVec := { toFin := ⟨50, Nat.mod_lt 50 (BitVec.ofNat._proof_1 8)⟩ } },
                                  { toBitVec := { toFin := ⟨53, Nat.mod_lt 53 (BitVec.ofNat._proof_1 8)⟩ } },
                                  { toBitVec := { toFin := ⟨50, Nat.mod_lt 50 (BitVec.ofNat._proof_1 8)⟩ } },
                                  { toBitVec := { toFin := ⟨54, Nat.mod_lt 54 (BitVec.ofNat._proof_1 8)⟩ } },
                                  { toBitVec := { toFin := ⟨50, Nat.mod_lt 50 (BitVec.ofNat._proof_1 8)⟩ } },
                                  { toBitVec := { toFin := ⟨55, Nat.mod_lt 55 (BitVec.ofNat._proof_1 8)⟩ } },
                                  { toBitVec := { toFin := ⟨50, Nat.mod_lt 50 (BitVec.ofNat._proof_1 8)⟩ } },
                                  { toBitVec := { toFin := ⟨56, Nat.mod_lt 56 (BitVec.ofNat._proof_1 8)⟩ } },
                                  { toBitVec := { toFin := ⟨50, Nat.mod_lt 50 (BitVec.ofNat._proof_1 8)⟩ } },
                                  { toBitVec := { toFin := ⟨57, Nat.mod_lt 57 (BitVec.ofNat._proof_1 8)⟩ } },
                                  { toBitVec := { toFin := ⟨51, Nat.mod_lt 51 (BitVec.ofNat._proof_1 8)⟩ } },
                                  { toBitVec := { toFin := ⟨48, Nat.mod_lt 48 (BitVec.ofNat._proof_1 8)⟩ } },
                                  { toBitVec := { toFin := ⟨51, Nat.mod_lt 51 (BitVec.ofNat._proof_1 8)⟩ } },
                                  { toBitVec := { toFin := ⟨49, Nat.mod_lt 49 (BitVec.ofNat._proof_1 8)⟩ } },
                                  { toBitVec := { toFin := ⟨51, Nat.mod_lt 51 (BitVec.ofNat._proof_1 8)⟩ } },
                                  { toBitVec := { toFin := ⟨50, Nat.mod_lt 50 (BitVec.ofNat._proof_1 8)⟩ } },
                                  { toBitVec := { toFin := ⟨51, Nat.mod_lt 51 (BitVec.ofNat._proof_1 8)⟩ } },
                                  { toBitVec := { toFin := ⟨51, Nat.mod_lt 51 (BitVec.ofNat._proof_1 8)⟩ } },
                                  { toBitVec := { toFin := ⟨51, Nat.mod_lt 51 (BitVec.ofNat._proof_1 8)⟩ } },
                                  { toBitVec := { toFin := ⟨52, Nat.mod_lt 52 (BitVec.ofNat._proof_1 8)⟩ } },
                                  { toBitVec := { toFin := ⟨51, Nat.mod_lt 51 (BitVec.ofNat._proof_1 8)⟩ } },
                                  { toBitVec := { toFin := ⟨53, Nat.mod_lt 53 (BitVec.ofNat._proof_1 8)⟩ } },
                                  { toBitVec := { toFin := ⟨51, Nat.mod_lt 51 (BitVec.ofNat._proof_1 8)⟩ } },
                                  { toBitVec := { toFin := ⟨54, Nat.mod_lt 54 (BitVec.ofNat._proof_1 8)⟩ } },
                                  { toBitVec := { toFin := ⟨51, Nat.mod_lt 51 (BitVec.ofNat._proof_1 8)⟩ } },
                                  { toBitVec := { toFin := ⟨55, Nat.mod_lt 55 (BitVec.ofNat._proof_1 8)⟩ } },
                                  { toBitVec := { toFin := ⟨51, Nat.mod_lt 51 (BitVec.ofNat._proof_1 8)⟩ } },
                                  { toBitVec := { toFin := ⟨56, Nat.mod_lt 56 (BitVec.ofNat._proof_1 8)⟩ } },
                                  { toBitVec := { toFin := ⟨51, Nat.mod_lt 51 (BitVec.ofNat._proof_1 8)⟩ } },
                                  { toBitVec := { toFin := ⟨57, Nat.mod_lt 57 (BitVec.ofNat._proof_1 8)⟩ } },
                                  { toBitVec := { toFin := ⟨52, Nat.mod_lt 52 (BitVec.ofNat._proof_1 8)⟩ } },
                                  { toBitVec := { toFin := ⟨48, Nat.mod_lt 48 (BitVec.ofNat._proof_1 8)⟩ } },
                                  { toBitVec := { toFin := ⟨52, Nat.mod_lt 52 (BitVec.ofNat._proof_1 8)⟩ } },
                                  { toBitVec := { toFin := ⟨49, Nat.mod_lt 49 (BitVec.ofNat._proof_1 8)⟩ } },
                                  { toBitVec := { toFin := ⟨52, Nat.mod_lt 52 (BitVec.ofNat._proof_1 8)⟩ } },
                                  { toBitVec := { toFin := ⟨50, Nat.mod_lt 50 (BitVec.ofNat._proof_1 8)⟩ } },
                                  { toBitVec := { toFin := ⟨52, Nat.mod_lt 52 (BitVec.ofNat._proof_1 8)⟩ } },
                                  { toBitVec := { toFin := ⟨51, Nat.mod_lt 51 (BitVec.ofNat._proof_1 8)⟩ } },
                                  { toBitVec := { toFin := ⟨52, Nat.mod_lt 52 (BitVec.ofNat._proof_1 8)⟩ } },
                                  { toBitVec := { toFin := ⟨52, Nat.mod_lt 52 (BitVec.ofNat._proof_1 8)⟩ } },
                                  { toBitVec := { toFin := ⟨52, Nat.mod_lt 52 (BitVec.ofNat._proof_1 8)⟩ } },
                                  { toBitVec := { toFin := ⟨53, Nat.mod_lt 53 (BitVec.ofNat._proof_1 8)⟩ } },
                                  { toBitVec := { toFin := ⟨52, Nat.mod_lt 52 (BitVec.ofNat._proof_1 8)⟩ } },
                                  { toBitVec := { toFin := ⟨54, Nat.mod_lt 54 (BitVec.ofNat._proof_1 8)⟩ } },
                                  { toBitVec := { toFin := ⟨52, Nat.mod_lt 52 (BitVec.ofNat._proof_1 8)⟩ } },
                                  { toBitVec := { toFin := ⟨55, Nat.mod_lt 55 (BitVec.ofNat._proof_1 8)⟩ } },
                                  { toBitVec := { toFin := ⟨52, Nat.mod_lt 52 (BitVec.ofNat._proof_1 8)⟩ } },
                                  { toBitVec := { toFin := ⟨56, Nat.mod_lt 56 (BitVec.ofNat._proof_1 8)⟩ } },
                                  { toBitVec := { toFin := ⟨52, Nat.mod_lt 52 (BitVec.ofNat._proof_1 8)⟩ } },
                                  { toBitVec := { toFin := ⟨57, Nat.mod_lt 57 (BitVec.ofNat._proof_1 8)⟩ } },
                                  { toBitVec := { toFin := ⟨53, Nat.mod_lt 53 (BitVec.ofNat._proof_1 8)⟩ } },
                                  { toBitVec := { toFin := ⟨48, Nat.mod_lt 48 (BitVec.ofNat._proof_1 8)⟩ } },
                                  { toBitVec := { toFin := ⟨53, Nat.mod_lt 53 (BitVec.ofNat._proof_1 8)⟩ } },
                                  { toBitVec := { toFin := ⟨49, Nat.mod_lt 49 (BitVec.ofNat._proof_1 8)⟩ } },
                                  { toBitVec := { toFin := ⟨53, Nat.mod_lt 53 (BitVec.ofNat._proof_1 8)⟩ } },
                                  { toBitVec := { toFin := ⟨50, Nat.mod_lt 50 (BitVec.ofNat._proof_1 8)⟩ } },
                                  { toBitVec := { toFin := ⟨53, Nat.mod_lt 53 (BitVec.ofNat._proof_1 8)⟩ } },
                                  { toBitVec := { toFin := ⟨51, Nat.mod_lt 51 (BitVec.ofNat._proof_1 8)⟩ } },
                                  { toBitVec := { toFin := ⟨53, Nat.mod_lt 53 (BitVec.ofNat._proof_1 8)⟩ } },
                                  { toBitVec := { toFin := ⟨52, Nat.mod_lt 52 (BitVec.ofNat._proof_1 8)⟩ } },
                                  { toBitVec := { toFin := ⟨53, Nat.mod_lt 53 (BitVec.ofNat._proof_1 8)⟩ } },
                                  { toBitVec := { toFin := ⟨53, Nat.mod_lt 53 (BitVec.ofNat._proof_1 8)⟩ } },
                                  { toBitVec := { toFin := ⟨53, Nat.mod_lt 53 (BitVec.ofNat._proof_1 8)⟩ } },
                                  { toBitVec := { toFin := ⟨54, Nat.mod_lt 54 (BitVec.ofNat._proof_1 8)⟩ } },
                                  { toBitVec := { toFin := ⟨53, Nat.mod_lt 53 (BitVec.ofNat._proof_1 8)⟩ } },
                                  { toBitVec := { toFin := ⟨55, Nat.mod_lt 55 (BitVec.ofNat._proof_1 8)⟩ } },
                                  { toBitVec := { toFin := ⟨53, Nat.mod_lt 53 (BitVec.ofNat._proof_1 8)⟩ } },
                                  { toBitVec := { toFin := ⟨56, Nat.mod_lt 56 (BitVec.ofNat._proof_1 8)⟩ } },
                                  { toBitVec := { toFin := ⟨53, Nat.mod_lt 53 (BitVec.ofNat._proof_1 8)⟩ } },
                                  { toBitVec := { toFin := ⟨57, Nat.mod_lt 57 (BitVec.ofNat._proof_1 8)⟩ } },
                                  { toBitVec := { toFin := ⟨54, Nat.mod_lt 54 (BitVec.ofNat._proof_1 8)⟩ } },
                                  { toBitVec := { toFin := ⟨48, Nat.mod_lt 48 (BitVec.ofNat._proof_1 8)⟩ } },
                                  { toBitVec := { toFin := ⟨54, Nat.mod_lt 54 (BitVec.ofNat._proof_1 8)⟩ } },
                                  { toBitVec := { toFin := ⟨49, Nat.mod_lt 49 (BitVec.ofNat._proof_1 8)⟩ } },
                                  { toBitVec := { toFin := ⟨54, Nat.mod_lt 54 (BitVec.ofNat._proof_1 8)⟩ } },
                                  { toBitVec := { toFin := ⟨50, Nat.mod_lt 50 (BitVec.ofNat._proof_1 8)⟩ } },
                                  { toBitVec := { toFin := ⟨54, Nat.mod_lt 54 (BitVec.ofNat._proof_1 8)⟩ } },
                                  { toBitVec := { toFin := ⟨51, Nat.mod_lt 51 (BitVec.ofNat._proof_1 8)⟩ } },
                                  { toBitVec := { toFin := ⟨54, Nat.mod_lt 54 (BitVec.ofNat._proof_1 8)⟩ } },
                                  { toBitVec := { toFin := ⟨52, Nat.mod_lt 52 (BitVec.ofNat._proof_1 8)⟩ } },
                                  { toBitVec := { toFin := ⟨54, Nat.mod_lt 54 (BitVec.ofNat._proof_1 8)⟩ } },
                                  { toBitVec := { toFin := ⟨53, Nat.mod_lt 53 (BitVec.ofNat._proof_1 8)⟩ } },
                                  { toBitVec := { toFin := ⟨54, Nat.mod_lt 54 (BitVec.ofNat._proof_1 8)⟩ } },
                                  { toBitVec := { toFin := ⟨54, Nat.mod_lt 54 (BitVec.ofNat._proof_1 8)⟩ } },
                                  { toBitVec := { toFin := ⟨54, Nat.mod_lt 54 (BitVec.ofNat._proof_1 8)⟩ } },
                                  { toBitVec := { toFin := ⟨55, Nat.mod_lt 55 (BitVec.ofNat._proof_1 8)⟩ } },
                                  { toBitVec := { toFin := ⟨54, Nat.mod_lt 54 (BitVec.ofNat._proof_1 8)⟩ } },
                                  { toBitVec := { toFin := ⟨56, Nat.mod_lt 56 (BitVec.ofNat._proof_1 8)⟩ } },
                                  { toBitVec := { toFin := ⟨54, Nat.mod_lt 54 (BitVec.ofNat._proof_1 8)⟩ } },
                                  { toBitVec := { toFin := ⟨57, Nat.mod_lt 57 (BitVec.ofNat._proof_1 8)⟩ } },
                                  { toBitVec := { toFin := ⟨55, Nat.mod_lt 55 (BitVec.ofNat._proof_1 8)⟩ } },
                                  { toBitVec := { toFin := ⟨48, Nat.mod_lt 48 (BitVec.ofNat._proof_1 8)⟩ } },
                                  { toBitVec := { toFin := ⟨55, Nat.mod_lt 55 (BitVec.ofNat._proof_1 8)⟩ } },
                                  { toBitVec := { toFin := ⟨49, Nat.mod_lt 49 (BitVec.ofNat._proof_1 8)⟩ } },
                                  { toBitVec := { toFin := ⟨55, Nat.mod_lt 55 (BitVec.ofNat._proof_1 8)⟩ } },
                                  { toBitVec := { toFin := ⟨50, Nat.mod_lt 50 (BitVec.ofNat._proof_1 8)⟩ } },
                                  { toBitVec := { toFin := ⟨55, Nat.mod_lt 55 (BitVec.ofNat._proof_1 8)⟩ } },
                                  { toBitVec := { toFin := ⟨51, Nat.mod_lt 51 (BitVec.ofNat._proof_1 8)⟩ } },
                                  { toBitVec := { toFin := ⟨55, Nat.mod_lt 55 (BitVec.ofNat._proof_1 8)⟩ } },
                                  { toBitVec := { toFin := ⟨52, Nat.mod_lt 52 (BitVec.ofNat._proof_1 8)⟩ } },
                                  { toBitVec := { toFin := ⟨55, Nat.mod_lt 55 (BitVec.ofNat._proof_1 8)⟩ } },
                                  { toBitVec := { toFin := ⟨53, Nat.mod_lt 53 (BitVec.ofNat._proof_1 8)⟩ } },
                                  { toBitVec := { toFin := ⟨55, Nat.mod_lt 55 (BitVec.ofNat._proof_1 8)⟩ } },
                                  { toBitVec := { toFin := ⟨54, Nat.mod_lt 54 (BitVec.ofNat._proof_1 8)⟩ } },
                                  { toBitVec := { toFin := ⟨55, Nat.mod_lt 55 (BitVec.ofNat._proof_1 8)⟩ } },
                                  { toBitVec := { toFin := ⟨55, Nat.mod_lt 55 (BitVec.ofNat._proof_1 8)⟩ } },
                                  { toBitVec := { toFin := ⟨55, Nat.mod_lt 55 (BitVec.ofNat._proof_1 8)⟩ } },
                                  { toBitVec := { toFin := ⟨56, Nat.mod_lt 56 (BitVec.ofNat._proof_1 8)⟩ } },
                                  { toBitVec := { toFin := ⟨55, Nat.mod_lt 55 (BitVec.ofNat._proof_1 8)⟩ } },
                                  { toBitVec := { toFin := ⟨57, Nat.mod_lt 57 (BitVec.ofNat._proof_1 8)⟩ } },
                                  { toBitVec := { toFin := ⟨56, Nat.mod_lt 56 (BitVec.ofNat._proof_1 8)⟩ } },
                                  { toBitVec := { toFin := ⟨48, Nat.mod_lt 48 (BitVec.ofNat._proof_1 8)⟩ } },
                                  { toBitVec := { toFin := ⟨56, Nat.mod_lt 56 (BitVec.ofNat._proof_1 8)⟩ } },
                                  { toBitVec := { toFin := ⟨49, Nat.mod_lt 49 (BitVec.ofNat._proof_1 8)⟩ } },
                                  { toBitVec := { toFin := ⟨56, Nat.mod_lt 56 (BitVec.ofNat._proof_1 8)⟩ } },
                                  { toBitVec := { toFin := ⟨50, Nat.mod_lt 50 (BitVec.ofNat._proof_1 8)⟩ } },
                                  { toBitVec := { toFin := ⟨56, Nat.mod_lt 56 (BitVec.ofNat._proof_1 8)⟩ } },
                                  { toBitVec := { toFin := ⟨51, Nat.mod_lt 51 (BitVec.ofNat._proof_1 8)⟩ } },
                                  { toBitVec := { toFin := ⟨56, Nat.mod_lt 56 (BitVec.ofNat._proof_1 8)⟩ } },
                                  { toBitVec := { toFin := ⟨52, Nat.mod_lt 52 (BitVec.ofNat._proof_1 8)⟩ } },
                                  { toBitVec := { toFin := ⟨56, Nat.mod_lt 56 (BitVec.ofNat._proof_1 8)⟩ } },
                                  { toBitVec := { toFin := ⟨53, Nat.mod_lt 53 (BitVec.ofNat._proof_1 8)⟩ } },
                                  { toBitVec := { toFin := ⟨56, Nat.mod_lt 56 (BitVec.ofNat._proof_1 8)⟩ } },
                                  { toBitVec := { toFin := ⟨54, Nat.mod_lt 54 (BitVec.ofNat._proof_1 8)⟩ } },
                                  { toBitVec := { toFin := ⟨56, Nat.mod_lt 56 (BitVec.ofNat._proof_1 8)⟩ } },
                                  { toBitVec := { toFin := ⟨55, Nat.mod_lt 55 (BitVec.ofNat._proof_1 8)⟩ } },
                                  { toBitVec := { toFin := ⟨56, Nat.mod_lt 56 (BitVec.ofNat._proof_1 8)⟩ } },
                                  { toBitVec := { toFin := ⟨56, Nat.mod_lt 56 (BitVec.ofNat._proof_1 8)⟩ } },
                                  { toBitVec := { toFin := ⟨56, Nat.mod_lt 56 (BitVec.ofNat._proof_1 8)⟩ } },
                                  { toBitVec := { toFin := ⟨57, Nat.mod_lt 57 (BitVec.ofNat._proof_1 8)⟩ } },
                                  { toBitVec := { toFin := ⟨57, Nat.mod_lt 57 (BitVec.ofNat._proof_1 8)⟩ } },
                                  { toBitVec := { toFin := ⟨48, Nat.mod_lt 48 (BitVec.ofNat._proof_1 8)⟩ } },
                                  { toBitVec := { toFin := ⟨57, Nat.mod_lt 57 (BitVec.ofNat._proof_1 8)⟩ } },
                                  { toBitVec := { toFin := ⟨49, Nat.mod_lt 49 (BitVec.ofNat._proof_1 8)⟩ } },
                                  { toBitVec := { toFin := ⟨57, Nat.mod_lt 57 (BitVec.ofNat._proof_1 8)⟩ } },
                                  { toBitVec := { toFin := ⟨50, Nat.mod_lt 50 (BitVec.ofNat._proof_1 8)⟩ } },
                                  { toBitVec := { toFin := ⟨57, Nat.mod_lt 57 (BitVec.ofNat._proof_1 8)⟩ } },
                                  { toBitVec := { toFin := ⟨51, Nat.mod_lt 51 (BitVec.ofNat._proof_1 8)⟩ } },
                                  { toBitVec := { toFin := ⟨57, Nat.mod_lt 57 (BitVec.ofNat._proof_1 8)⟩ } },
                                  { toBitVec := { toFin := ⟨52, Nat.mod_lt 52 (BitVec.ofNat._proof_1 8)⟩ } },
                                  { toBitVec := { toFin := ⟨57, Nat.mod_lt 57 (BitVec.ofNat._proof_1 8)⟩ } },
                                  { toBitVec := { toFin := ⟨53, Nat.mod_lt 53 (BitVec.ofNat._proof_1 8)⟩ } },
                                  { toBitVec := { toFin := ⟨57, Nat.mod_lt 57 (BitVec.ofNat._proof_1 8)⟩ } },
                                  { toBitVec := { toFin := ⟨54, Nat.mod_lt 54 (BitVec.ofNat._proof_1 8)⟩ } },
                                  { toBitVec := { toFin := ⟨57, Nat.mod_lt 57 (BitVec.ofNat._proof_1 8)⟩ } },
                                  { toBitVec := { toFin := ⟨55, Nat.mod_lt 55 (BitVec.ofNat._proof_1 8)⟩ } },
                                  { toBitVec := { toFin := ⟨57, Nat.mod_lt 57 (BitVec.ofNat._proof_1 8)⟩ } },
                                  { toBitVec := { toFin := ⟨56, Nat.mod_lt 56 (BitVec.ofNat._proof_1 8)⟩ } },
                                  { toBitVec := { toFin := ⟨57, Nat.mod_lt 57 (BitVec.ofNat._proof_1 8)⟩ } },
                                  { toBitVec := { toFin := ⟨57, Nat.mod_lt 57 (BitVec.ofNat._proof_1 8)⟩ } }] } }))
                    (Option.some (Go.Operand.tmp 10)) (Option.some (Go.Operand.tmp 13)) Option.none,
                type := 9 },
              { dst := Option.some 2, g := Go.Am.QG.no, op := Go.Op.assign (Go.Operand.tmp 14), type := 9 }]).seq
        Go.Am.QC.ret)))
theorem q79_ok : bodyComp Tryd.prog 79 = some q79 := by kernel_rfl
noncomputable def qts5 : Tr QC := qtab [(62, q62), (70, q70), (74, q74), (79, q79), (13, q13), (16, q16), (18, q18), (19, q19), (21, q21), (30, q30), (31, q31), (34, q34), (35, q35), (36, q36), (37, q37), (38, q38), (42, q42), (43, q43), (44, q44), (45, q45), (46, q46), (47, q47), (48, q48), (49, q49), (50, q50), (51, q51), (52, q52), (53, q53), (54, q54), (55, q55), (56, q56), (57, q57), (60, q60), (61, q61), (63, q63), (64, q64), (65, q65), (66, q66), (69, q69), (71, q71), (75, q75)]
theorem qok5 : QOk Tryd.prog qts5 := QOk.of fun p hp => by
  simp only [List.mem_cons, List.not_mem_nil, or_false] at hp
  rcases hp with rfl | rfl | rfl | rfl | rfl | rfl | rfl | rfl | rfl | rfl | rfl | rfl | rfl | rfl | rfl | rfl | rfl | rfl | rfl | rfl | rfl | rfl | rfl | rfl | rfl | rfl | rfl | rfl | rfl | rfl | rfl | rfl | rfl | rfl | rfl | rfl | rfl | rfl | rfl | rfl | rfl
  · exact q62_ok
  · exact q70_ok
  · exact q74_ok
  · exact q79_ok
  · exact q13_ok
  · exact q16_ok
  · exact q18_ok
  · exact q19_ok
  · exact q21_ok
  · exact q30_ok
  · exact q31_ok
  · exact q34_ok
  · exact q35_ok
  · exact q36_ok
  · exact q37_ok
  · exact q38_ok
  · exact q42_ok
  · exact q43_ok
  · exact q44_ok
  · exact q45_ok
  · exact q46_ok
  · exact q47_ok
  · exact q48_ok
  · exact q49_ok
  · exact q50_ok
  · exact q51_ok
  · exact q52_ok
  · exact q53_ok
  · exact q54_ok
  · exact q55_ok
  · exact q56_ok
  · exact q57_ok
  · exact q60_ok
  · exact q61_ok
  · exact q63_ok
  · exact q64_ok
  · exact q65_ok
  · exact q66_ok
  · exact q69_ok
  · exact q71_ok
  · exact q75_ok
end Go.Proofs.YtlgkpnlppgihcaaDoor
