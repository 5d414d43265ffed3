/-
  RegexDeep: thirty brackets in one another are read, one more is refused at its place; whatever the argument. Conditions: none beyond the card's own.
-/
import Derived.Test.YtlgkpnlppgihcaaDoorAmQ
import Derived.KernelRfl
import Derived.Test.YtlgkpnlppgihcaaDoorProg
open Go Go.Am Go.Proofs
namespace Go.Proofs.YtlgkpnlppgihcaaDoor
set_option maxRecDepth 100000
noncomputable def q13 : QC :=
  ((Go.Am.QC.plain
        [{ dst := Option.some 0, g := Go.Am.QG.no, op := Go.Op.assign (Go.Operand.const (Go.Value.bool Bool.false)),
            type := 4 }]).seq
    ((Go.Am.QC.plain
          [{ dst := Option.some 8, g := Go.Am.QG.no,
              op :=
                Go.Op.call
                  { callee := Go.Callee.value (Go.Operand.func 21),
                    args := { toList := [Go.Operand.const (Go.Value.string { data := { toList := [] } })] },
                    argTypes := { toList := [9] } },
              type := 33 },
            { dst := Option.some 7, g := Go.Am.QG.no, op := Go.Op.move (Go.Operand.tmp 8), type := 33 },
            { dst := Option.some 9, g := Go.Am.QG.no, op := Go.Op.extract (Go.Operand.tmp 7) 0, type := 27 },
            { dst := Option.some 10, g := Go.Am.QG.no, op := Go.Op.extract (Go.Operand.tmp 7) 1, type := 3 },
            { dst := Option.some 11, g := Go.Am.QG.no, op := Go.Op.extract (Go.Operand.tmp 7) 2, type := 32 },
            { dst := Option.some 1, g := Go.Am.QG.no, op := Go.Op.alloc 27, type := 0 },
            { dst := Option.none, g := Go.Am.QG.no, op := Go.Op.store 27 (Go.Operand.tmp 1) (Go.Operand.tmp 9),
              type := 0 },
            { dst := Option.some 2, g := Go.Am.QG.no, op := Go.Op.assign (Go.Operand.tmp 10), type := 3 },
            { dst := Option.some 3, g := Go.Am.QG.no, op := Go.Op.assign (Go.Operand.tmp 11), type := 32 }]).seq
      ((Go.Am.QC.plain
            [{ dst := Option.some 13, g := Go.Am.QG.no,
                op :=
                  Go.Op.call
                    { callee := Go.Callee.value (Go.Operand.func 21),
                      args :=
                        {
                          toList :=
                            [Go.Operand.const
                                (Go.Value.string
                                  {
                                    data :=
                                      {
                                        toList :=
                                          [{
                                              toBitVec :=
                                                { toFin := ⟨119, Nat.mod_lt 119 (BitVec.ofNat._proof_1 8)⟩ } }] } })] },
                      argTypes := { toList := [9] } },
                type := 33 },
              { dst := Option.some 12, g := Go.Am.QG.no, op := Go.Op.move (Go.Operand.tmp 13), type := 33 },
              { dst := Option.some 14, g := Go.Am.QG.no, op := Go.Op.extract (Go.Operand.tmp 12) 0, type := 27 },
              { dst := Option.some 15, g := Go.Am.QG.no, op := Go.Op.extract (Go.Operand.tmp 12) 1, type := 3 },
              { dst := Option.some 16, g := Go.Am.QG.no, op := Go.Op.extract (Go.Operand.tmp 12) 2, type := 32 },
              { dst := Option.some 4, g := Go.Am.QG.no, op := Go.Op.alloc 27, type := 0 },
              { dst := Option.none, g := Go.Am.QG.no, op := Go.Op.store 27 (Go.Operand.tmp 4) (Go.Operand.tmp 14),
                type := 0 },
              { dst := Option.some 5, g := Go.Am.QG.no, op := Go.Op.assign (Go.Operand.tmp 15), type := 3 },
              { dst := Option.some 6, g := Go.Am.QG.no, op := Go.Op.assign (Go.Operand.tmp 16), type := 32 }]).seq
        ((Go.Am.QC.plain
              [{ dst := Option.some 17, g := Go.Am.QG.no, op := Go.Op.move (Go.Operand.tmp 3), type := 32 },
                { dst := Option.some 18, g := Go.Am.QG.no,
                  op :=
                    Go.Op.binOp Go.BinOp.eql 32 (Go.Operand.tmp 17)
                      (Go.Operand.const (Go.Value.int Go.IntKind.i64 (Int.ofNat 3))) 32,
                  type := 4 },
                { dst := Option.some 19, g := Go.Am.QG.no, op := Go.Op.move (Go.Operand.tmp 18), type := 4 },
                { dst := Option.some 20, g := Go.Am.QG.at 19 Bool.true, op := Go.Op.move (Go.Operand.tmp 2),
                  type := 3 },
                { dst := Option.some 21, g := Go.Am.QG.at 19 Bool.true,
                  op :=
                    Go.Op.binOp Go.BinOp.eql 3 (Go.Operand.tmp 20)
                      (Go.Operand.const (Go.Value.int Go.IntKind.i64 (Int.ofNat 0))) 3,
                  type := 4 },
                { dst := Option.some 22, g := Go.Am.QG.no,
                  op :=
                    Go.Op.pick (Go.Operand.tmp 19) (Go.Operand.tmp 21) (Go.Operand.const (Go.Value.bool Bool.false)),
                  type := 4 },
                { dst := Option.some 23, g := Go.Am.QG.no, op := Go.Op.move (Go.Operand.tmp 22), type := 4 },
                { dst := Option.some 24, g := Go.Am.QG.at 23 Bool.true, op := Go.Op.move (Go.Operand.tmp 6),
                  type := 32 },
                { dst := Option.some 25, g := Go.Am.QG.at 23 Bool.true,
                  op :=
                    Go.Op.binOp Go.BinOp.eql 32 (Go.Operand.tmp 24)
                      (Go.Operand.const (Go.Value.int Go.IntKind.i64 (Int.ofNat 0))) 32,
                  type := 4 },
                { dst := Option.some 26, g := Go.Am.QG.no,
                  op :=
                    Go.Op.pick (Go.Operand.tmp 23) (Go.Operand.tmp 25) (Go.Operand.const (Go.Value.bool Bool.false)),
                  type := 4 },
                { dst := Option.some 27, g := Go.Am.QG.no, op := Go.Op.move (Go.Operand.tmp 26), type := 4 },
                { dst := Option.some 28, g := Go.Am.QG.at 27 Bool.true, op := Go.Op.fieldAddr 27 (Go.Operand.tmp 4) 0,
                  type := 0 },
                { dst := Option.some 29, g := Go.Am.QG.at 27 Bool.true, op := Go.Op.load 3 (Go.Operand.tmp 28),
                  type := 3 },
                { dst := Option.some 30, g := Go.Am.QG.at 27 Bool.true,
                  op :=
                    Go.Op.binOp Go.BinOp.eql 3 (Go.Operand.tmp 29)
                      (Go.Operand.const (Go.Value.int Go.IntKind.i64 (Int.ofNat 1))) 3,
                  type := 4 },
                { dst := Option.some 31, g := Go.Am.QG.no,
                  op :=
                    Go.Op.pick (Go.Operand.tmp 27) (Go.Operand.tmp 30) (Go.Operand.const (Go.Value.bool Bool.false)),
                  type := 4 },
                { dst := Option.some 32, g := Go.Am.QG.no, op := Go.Op.move (Go.Operand.tmp 31), type := 4 },
                { dst := Option.some 33, g := Go.Am.QG.at 32 Bool.true, op := Go.Op.fieldAddr 27 (Go.Operand.tmp 4) 1,
                  type := 0 },
                { dst := Option.some 34, g := Go.Am.QG.at 32 Bool.true, op := Go.Op.load 3 (Go.Operand.tmp 33),
                  type := 3 },
                { dst := Option.some 35, g := Go.Am.QG.at 32 Bool.true,
                  op :=
                    Go.Op.binOp Go.BinOp.eql 3 (Go.Operand.tmp 34)
                      (Go.Operand.const (Go.Value.int Go.IntKind.i64 (Int.ofNat 1))) 3,
                  type := 4 },
                { dst := Option.some 36, g := Go.Am.QG.no,
                  op :=
                    Go.Op.pick (Go.Operand.tmp 32) (Go.Operand.tmp 35) (Go.Operand.const (Go.Value.bool Bool.false)),
                  type := 4 },
                { dst := Option.some 37, g := Go.Am.QG.no, op := Go.Op.move (Go.Operand.tmp 36), type := 4 },
                { dst := Option.some 38, g := Go.Am.QG.at 37 Bool.true, op := Go.Op.load 27 (Go.Operand.tmp 4),
                  type := 27 },
                { dst := Option.some 39, g := Go.Am.QG.at 37 Bool.true,
                  op :=
                    Go.Op.call
                      { callee := Go.Callee.value (Go.Operand.func 18), args := { toList := [Go.Operand.tmp 38] },
                        argTypes := { toList := [27] } },
                  type := 4 },
                { dst := Option.some 40, g := Go.Am.QG.no,
                  op :=
                    Go.Op.pick (Go.Operand.tmp 37) (Go.Operand.tmp 39) (Go.Operand.const (Go.Value.bool Bool.false)),
                  type := 4 },
                { dst := Option.some 41, g := Go.Am.QG.no, op := Go.Op.move (Go.Operand.tmp 40), type := 4 },
                { dst := Option.some 42, g := Go.Am.QG.at 41 Bool.true, op := Go.Op.load 27 (Go.Operand.tmp 4),
                  type := 27 },
                { dst := Option.some 43, g := Go.Am.QG.at 41 Bool.true,
                  op :=
                    Go.Op.call
                      { callee := Go.Callee.value (Go.Operand.func 16), args := { toList := [Go.Operand.tmp 42] },
                        argTypes := { toList := [27] } },
                  type := 9 },
                { dst := Option.some 44, g := Go.Am.QG.at 41 Bool.true,
                  op :=
                    Go.Op.binOp Go.BinOp.eql 9 (Go.Operand.tmp 43)
                      (Go.Operand.const
                        (Go.Value.string
                          {
                            data :=
                              {
                                toList :=
                                  [{ toBitVec := { toFin := ⟨119, Nat.mod_lt 119 (BitVec.ofNat._proof_1 8)⟩ } }] } }))
                      9,
                  type := 4 },
                { dst := Option.some 45, g := Go.Am.QG.no,
                  op :=
                    Go.Op.pick (Go.Operand.tmp 41) (Go.Operand.tmp 44) (Go.Operand.const (Go.Value.bool Bool.false)),
                  type := 4 },
                { dst := Option.some 0, g := Go.Am.QG.no, op := Go.Op.assign (Go.Operand.tmp 45), type := 4 }]).seq
          Go.Am.QC.ret))))
theorem q13_ok : bodyComp Tryd.prog 13 = some q13 := by kernel_rfl
noncomputable def q16 : QC :=
  ((Go.Am.QC.plain
        [{ dst := Option.some 1, g := Go.Am.QG.no, op := Go.Op.box 27 (Go.Operand.tmp 0), type := 0 },
          { dst := Option.some 2, g := Go.Am.QG.no,
            op := Go.Op.assign (Go.Operand.const (Go.Value.string { data := { toList := [] } })), type := 9 }]).seq
    (((Go.Am.QC.plain
              [{ dst := Option.some 4, g := Go.Am.QG.no, op := Go.Op.load 27 (Go.Operand.tmp 1), type := 27 },
                { dst := Option.some 5, g := Go.Am.QG.no,
                  op :=
                    Go.Op.call
                      { callee := Go.Callee.value (Go.Operand.func 18), args := { toList := [Go.Operand.tmp 4] },
                        argTypes := { toList := [27] } },
                  type := 4 },
                { dst := Option.some 6, g := Go.Am.QG.no, op := Go.Op.unOp Go.UnOp.not 4 (Go.Operand.tmp 5),
                  type := 4 }]).seq
          (Go.Am.QC.cond (Go.Operand.tmp 6)
            ((Go.Am.QC.plain
                  [{ dst := Option.some 2, g := Go.Am.QG.no,
                      op := Go.Op.assign (Go.Operand.const (Go.Value.string { data := { toList := [] } })),
                      type := 9 }]).seq
              Go.Am.QC.ret)
            Go.Am.QC.skip)).seq
      ((Go.Am.QC.plain [{ dst := Option.some 3, g := Go.Am.QG.no, op := Go.Op.alloc 60, type := 0 }]).seq
        ((Go.Am.QC.plain
              [{ dst := Option.some 7, g := Go.Am.QG.no, op := Go.Op.load 27 (Go.Operand.tmp 1), type := 27 },
                { dst := Option.some 8, g := Go.Am.QG.no,
                  op :=
                    Go.Op.call
                      { callee := Go.Callee.value (Go.Operand.func 30),
                        args := { toList := [Go.Operand.tmp 3, Go.Operand.tmp 7] },
                        argTypes := { toList := [60, 27] } },
                  type := 0 }]).seq
          ((Go.Am.QC.plain
                [{ dst := Option.some 9, g := Go.Am.QG.no, op := Go.Op.fieldAddr 60 (Go.Operand.tmp 3) 0, type := 0 },
                  { dst := Option.some 10, g := Go.Am.QG.no,
                    op :=
                      Go.Op.call
                        { callee := Go.Callee.value (Go.Operand.func 31), args := { toList := [Go.Operand.tmp 9] },
                          argTypes := { toList := [58] } },
                    type := 9 },
                  { dst := Option.some 2, g := Go.Am.QG.no, op := Go.Op.assign (Go.Operand.tmp 10), type := 9 }]).seq
            Go.Am.QC.ret)))))
theorem q16_ok : bodyComp Tryd.prog 16 = some q16 := by kernel_rfl
noncomputable def q18 : QC :=
  ((Go.Am.QC.plain
        [{ dst := Option.some 1, g := Go.Am.QG.no, op := Go.Op.box 27 (Go.Operand.tmp 0), type := 0 },
          { dst := Option.some 2, g := Go.Am.QG.no, op := Go.Op.assign (Go.Operand.const (Go.Value.bool Bool.false)),
            type := 4 }]).seq
    (((Go.Am.QC.plain
              [{ dst := Option.some 5, g := Go.Am.QG.no, op := Go.Op.load 27 (Go.Operand.tmp 1), type := 27 },
                { dst := Option.some 6, g := Go.Am.QG.no,
                  op :=
                    Go.Op.call
                      { callee := Go.Callee.value (Go.Operand.func 34), args := { toList := [Go.Operand.tmp 5] },
                        argTypes := { toList := [27] } },
                  type := 4 },
                { dst := Option.some 7, g := Go.Am.QG.no, op := Go.Op.unOp Go.UnOp.not 4 (Go.Operand.tmp 6),
                  type := 4 }]).seq
          (Go.Am.QC.cond (Go.Operand.tmp 7)
            ((Go.Am.QC.plain
                  [{ dst := Option.some 2, g := Go.Am.QG.no,
                      op := Go.Op.assign (Go.Operand.const (Go.Value.bool Bool.false)), type := 4 }]).seq
              Go.Am.QC.ret)
            Go.Am.QC.skip)).seq
      (((Go.Am.QC.plain
                [{ dst := Option.some 8, g := Go.Am.QG.no, op := Go.Op.fieldAddr 27 (Go.Operand.tmp 1) 4, type := 0 },
                  { dst := Option.some 9, g := Go.Am.QG.no, op := Go.Op.load 25 (Go.Operand.tmp 8), type := 25 },
                  { dst := Option.some 10, g := Go.Am.QG.no,
                    op :=
                      Go.Op.call
                        { callee := Go.Callee.builtin Go.Builtin.len, args := { toList := [Go.Operand.tmp 9] },
                          argTypes := { toList := [25] } },
                    type := 3 },
                  { dst := Option.some 11, g := Go.Am.QG.no,
                    op := Go.Op.move (Go.Operand.const (Go.Value.int Go.IntKind.i64 (Int.ofNat 0))), type := 3 }]).seq
            (Go.Am.QC.block 0
              ((Go.Am.QC.plain
                      [{ dst := Option.some 12, g := Go.Am.QG.no,
                          op := Go.Op.binOp Go.BinOp.lss 3 (Go.Operand.tmp 11) (Go.Operand.tmp 10) 3, type := 0 }]).seq
                  ((Go.Am.QC.cond (Go.Operand.tmp 12) Go.Am.QC.skip (Go.Am.QC.exit 0)).seq
                    ((Go.Am.QC.block 1
                          ((Go.Am.QC.plain
                                [{ dst := Option.some 13, g := Go.Am.QG.no,
                                    op := Go.Op.indexAddr 25 (Go.Operand.tmp 9) (Go.Operand.tmp 11), type := 0 },
                                  { dst := Option.some 14, g := Go.Am.QG.no, op := Go.Op.load 27 (Go.Operand.tmp 13),
                                    type := 27 },
                                  { dst := Option.some 4, g := Go.Am.QG.no, op := Go.Op.alloc 27, type := 0 },
                                  { dst := Option.none, g := Go.Am.QG.no,
                                    op := Go.Op.store 27 (Go.Operand.tmp 4) (Go.Operand.tmp 14), type := 0 }]).seq
                            ((Go.Am.QC.plain
                                  [{ dst := Option.some 15, g := Go.Am.QG.no, op := Go.Op.load 27 (Go.Operand.tmp 4),
                                      type := 27 },
                                    { dst := Option.some 16, g := Go.Am.QG.no,
                                      op :=
                                        Go.Op.call
                                          { callee := Go.Callee.value (Go.Operand.func 18),
                                            args := { toList := [Go.Operand.tmp 15] }, argTypes := { toList := [27] } },
                                      type := 4 },
                                    { dst := Option.some 17, g := Go.Am.QG.no,
                                      op := Go.Op.unOp Go.UnOp.not 4 (Go.Operand.tmp 16), type := 4 }]).seq
                              (Go.Am.QC.cond (Go.Operand.tmp 17)
                                ((Go.Am.QC.plain
                                      [{ dst := Option.some 2, g := Go.Am.QG.no,
                                          op := Go.Op.assign (Go.Operand.const (Go.Value.bool Bool.false)),
                                          type := 4 }]).seq
                                  Go.Am.QC.ret)
                                Go.Am.QC.skip)))).seq
                      (Go.Am.QC.plain
                        [{ dst := Option.some 18, g := Go.Am.QG.no,
                            op :=
                              Go.Op.binOp Go.BinOp.add 3 (Go.Operand.tmp 11)
                                (Go.Operand.const (Go.Value.int Go.IntKind.i64 (Int.ofNat 1))) 3,
                            type := 3 },
                          { dst := Option.some 11, g := Go.Am.QG.no, op := Go.Op.move (Go.Operand.tmp 18),
                            type := 3 }])))).loop)).seq
        ((Go.Am.QC.plain
              [{ dst := Option.some 2, g := Go.Am.QG.no,
                  op := Go.Op.assign (Go.Operand.const (Go.Value.bool Bool.true)), type := 4 }]).seq
          Go.Am.QC.ret))))
theorem q18_ok : bodyComp Tryd.prog 18 = some q18 := by kernel_rfl
noncomputable def q19 : QC :=
  ((Go.Am.QC.plain
        [{ dst := Option.some 1, g := Go.Am.QG.no, op := Go.Op.box 27 (Go.Operand.tmp 0), type := 0 },
          { dst := Option.some 2, g := Go.Am.QG.no,
            op := Go.Op.assign (Go.Operand.const (Go.Value.int Go.IntKind.i64 (Int.ofNat 0))), type := 3 }]).seq
    ((Go.Am.QC.plain
          [{ dst := Option.some 3, g := Go.Am.QG.no,
              op := Go.Op.assign (Go.Operand.const (Go.Value.int Go.IntKind.i64 (Int.ofNat 1))), type := 3 }]).seq
      (((Go.Am.QC.plain
                [{ dst := Option.some 6, g := Go.Am.QG.no, op := Go.Op.fieldAddr 27 (Go.Operand.tmp 1) 4, type := 0 },
                  { dst := Option.some 7, g := Go.Am.QG.no, op := Go.Op.load 25 (Go.Operand.tmp 6), type := 25 },
                  { dst := Option.some 8, g := Go.Am.QG.no,
                    op :=
                      Go.Op.call
                        { callee := Go.Callee.builtin Go.Builtin.len, args := { toList := [Go.Operand.tmp 7] },
                          argTypes := { toList := [25] } },
                    type := 3 },
                  { dst := Option.some 9, g := Go.Am.QG.no,
                    op := Go.Op.move (Go.Operand.const (Go.Value.int Go.IntKind.i64 (Int.ofNat 0))), type := 3 }]).seq
            (Go.Am.QC.block 0
              ((Go.Am.QC.plain
                      [{ dst := Option.some 10, g := Go.Am.QG.no,
                          op := Go.Op.binOp Go.BinOp.lss 3 (Go.Operand.tmp 9) (Go.Operand.tmp 8) 3, type := 0 }]).seq
                  ((Go.Am.QC.cond (Go.Operand.tmp 10) Go.Am.QC.skip (Go.Am.QC.exit 0)).seq
                    ((Go.Am.QC.block 1
                          ((Go.Am.QC.plain
                                [{ dst := Option.some 11, g := Go.Am.QG.no,
                                    op := Go.Op.indexAddr 25 (Go.Operand.tmp 7) (Go.Operand.tmp 9), type := 0 },
                                  { dst := Option.some 12, g := Go.Am.QG.no, op := Go.Op.load 27 (Go.Operand.tmp 11),
                                    type := 27 },
                                  { dst := Option.some 5, g := Go.Am.QG.no, op := Go.Op.alloc 27, type := 0 },
                                  { dst := Option.none, g := Go.Am.QG.no,
                                    op := Go.Op.store 27 (Go.Operand.tmp 5) (Go.Operand.tmp 12), type := 0 }]).seq
                            (Go.Am.QC.plain
                              [{ dst := Option.some 13, g := Go.Am.QG.no, op := Go.Op.move (Go.Operand.tmp 3),
                                  type := 3 },
                                { dst := Option.some 14, g := Go.Am.QG.no, op := Go.Op.load 27 (Go.Operand.tmp 5),
                                  type := 27 },
                                { dst := Option.some 15, g := Go.Am.QG.no,
                                  op :=
                                    Go.Op.call
                                      { callee := Go.Callee.value (Go.Operand.func 19),
                                        args := { toList := [Go.Operand.tmp 14] }, argTypes := { toList := [27] } },
                                  type := 3 },
                                { dst := Option.some 16, g := Go.Am.QG.no,
                                  op := Go.Op.binOp Go.BinOp.add 3 (Go.Operand.tmp 13) (Go.Operand.tmp 15) 3,
                                  type := 3 },
                                { dst := Option.some 3, g := Go.Am.QG.no, op := Go.Op.assign (Go.Operand.tmp 16),
                                  type := 3 }]))).seq
                      (Go.Am.QC.plain
                        [{ dst := Option.some 17, g := Go.Am.QG.no,
                            op :=
                              Go.Op.binOp Go.BinOp.add 3 (Go.Operand.tmp 9)
                                (Go.Operand.const (Go.Value.int Go.IntKind.i64 (Int.ofNat 1))) 3,
                            type := 3 },
                          { dst := Option.some 9, g := Go.Am.QG.no, op := Go.Op.move (Go.Operand.tmp 17),
                            type := 3 }])))).loop)).seq
        ((Go.Am.QC.plain
              [{ dst := Option.some 18, g := Go.Am.QG.no, op := Go.Op.move (Go.Operand.tmp 3), type := 3 },
                { dst := Option.some 2, g := Go.Am.QG.no, op := Go.Op.assign (Go.Operand.tmp 18), type := 3 }]).seq
          Go.Am.QC.ret))))
theorem q19_ok : bodyComp Tryd.prog 19 = some q19 := by kernel_rfl
noncomputable def q21 : QC :=
  ((Go.Am.QC.plain
        [{ dst := Option.some 2, g := Go.Am.QG.no, op := Go.Op.alloc 27, type := 0 },
          { dst := Option.some 3, g := Go.Am.QG.no,
            op := Go.Op.assign (Go.Operand.const (Go.Value.int Go.IntKind.i64 (Int.ofNat 0))), type := 3 },
          { dst := Option.some 4, g := Go.Am.QG.no,
            op := Go.Op.assign (Go.Operand.const (Go.Value.int Go.IntKind.i64 (Int.ofNat 0))), type := 32 }]).seq
    (((Go.Am.QC.plain
              [{ dst := Option.some 7, g := Go.Am.QG.no, op := Go.Op.move (Go.Operand.tmp 0), type := 9 },
                { dst := Option.some 8, g := Go.Am.QG.no,
                  op :=
                    Go.Op.call
                      { callee := Go.Callee.builtin Go.Builtin.len, args := { toList := [Go.Operand.tmp 7] },
                        argTypes := { toList := [9] } },
                  type := 3 },
                { dst := Option.some 9, g := Go.Am.QG.no,
                  op :=
                    Go.Op.binOp Go.BinOp.gtr 3 (Go.Operand.tmp 8)
                      (Go.Operand.const (Go.Value.int Go.IntKind.i64 (Int.ofNat 200))) 3,
                  type := 4 }]).seq
          (Go.Am.QC.cond (Go.Operand.tmp 9)
            ((Go.Am.QC.plain
                  [{ dst := Option.some 10, g := Go.Am.QG.no, op := Go.Op.build 27 { toList := [] }, type := 27 },
                    { dst := Option.none, g := Go.Am.QG.no, op := Go.Op.store 27 (Go.Operand.tmp 2) (Go.Operand.tmp 10),
                      type := 0 },
                    { dst := Option.some 3, g := Go.Am.QG.no,
                      op := Go.Op.assign (Go.Operand.const (Go.Value.int Go.IntKind.i64 (Int.ofNat 0))), type := 3 },
                    { dst := Option.some 4, g := Go.Am.QG.no,
                      op := Go.Op.assign (Go.Operand.const (Go.Value.int Go.IntKind.i64 (Int.ofNat 4))),
                      type := 32 }]).seq
              Go.Am.QC.ret)
            Go.Am.QC.skip)).seq
      ((Go.Am.QC.plain
            [{ dst := Option.some 11, g := Go.Am.QG.no, op := Go.Op.move (Go.Operand.tmp 0), type := 9 },
              { dst := Option.some 12, g := Go.Am.QG.no,
                op :=
                  Go.Op.call
                    { callee := Go.Callee.value (Go.Operand.func 35), args := { toList := [Go.Operand.tmp 11] },
                      argTypes := { toList := [9] } },
                type := 65 },
              { dst := Option.some 5, g := Go.Am.QG.no, op := Go.Op.assign (Go.Operand.tmp 12), type := 65 }]).seq
        (((Go.Am.QC.plain
                  [{ dst := Option.some 13, g := Go.Am.QG.no, op := Go.Op.move (Go.Operand.tmp 5), type := 65 },
                    { dst := Option.some 14, g := Go.Am.QG.no,
                      op :=
                        Go.Op.call
                          { callee := Go.Callee.value (Go.Operand.func 36), args := { toList := [Go.Operand.tmp 13] },
                            argTypes := { toList := [65] } },
                      type := 32 },
                    { dst := Option.some 6, g := Go.Am.QG.no, op := Go.Op.assign (Go.Operand.tmp 14), type := 32 }]).seq
              ((Go.Am.QC.plain
                    [{ dst := Option.some 15, g := Go.Am.QG.no, op := Go.Op.move (Go.Operand.tmp 6), type := 32 },
                      { dst := Option.some 16, g := Go.Am.QG.no,
                        op :=
                          Go.Op.binOp Go.BinOp.neq 32 (Go.Operand.tmp 15)
                            (Go.Operand.const (Go.Value.int Go.IntKind.i64 (Int.ofNat 0))) 32,
                        type := 4 }]).seq
                (Go.Am.QC.cond (Go.Operand.tmp 16)
                  ((Go.Am.QC.drawn
                        {
                          toList :=
                            [{ dst := Option.some 17, op := Go.Op.build 27 { toList := [] }, type := 27,
                                pos := "regex.go:59", after := { toList := [] }, guard := Option.none },
                              { dst := Option.some 18, op := Go.Op.move (Go.Operand.tmp 5), type := 65,
                                pos := "regex.go:59",
                                after :=
                                  { toList := [{ on := 6, ground := Go.Ground.gcOnly Go.Departure.lateStores }] },
                                guard := Option.none },
                              { dst := Option.some 19, op := Go.Op.nilCheck (Go.Operand.tmp 18), type := 0,
                                pos := "regex.go:59",
                                after :=
                                  {
                                    toList :=
                                      [{ on := 1, ground := Go.Ground.data },
                                        { on := 6, ground := Go.Ground.gcOnly Go.Departure.lateStores }] },
                                guard := Option.none },
                              { dst := Option.some 20, op := Go.Op.fieldAddr 70 (Go.Operand.tmp 19) 1, type := 0,
                                pos := "regex.go:59",
                                after :=
                                  {
                                    toList :=
                                      [{ on := 2, ground := Go.Ground.data },
                                        { on := 6, ground := Go.Ground.gcOnly Go.Departure.lateStores }] },
                                guard := Option.none },
                              { dst := Option.some 21, op := Go.Op.load 3 (Go.Operand.tmp 20), type := 3,
                                pos := "regex.go:59",
                                after :=
                                  {
                                    toList :=
                                      [{ on := 3, ground := Go.Ground.data },
                                        { on := 6, ground := Go.Ground.gcOnly Go.Departure.lateStores }] },
                                guard := Option.none },
                              { dst := Option.some 22, op := Go.Op.move (Go.Operand.tmp 6), type := 32,
                                pos := "regex.go:59",
                                after :=
                                  { toList := [{ on := 7, ground := Go.Ground.gcOnly Go.Departure.lateStores }] },
                                guard := Option.none },
                              { dst := Option.none, op := Go.Op.store 27 (Go.Operand.tmp 2) (Go.Operand.tmp 17),
                                type := 0, pos := "regex.go:59",
                                after :=
                                  {
                                    toList :=
                                      [{ on := 0, ground := Go.Ground.data }, { on := 0, ground := Go.Ground.phase },
                                        { on := 1, ground := Go.Ground.textOnly Go.Departure.lateStores },
                                        { on := 2, ground := Go.Ground.textOnly Go.Departure.lateStores },
                                        { on := 3, ground := Go.Ground.textOnly Go.Departure.lateStores },
                                        { on := 4, ground := Go.Ground.textOnly Go.Departure.lateStores },
                                        { on := 5, ground := Go.Ground.textOnly Go.Departure.lateStores }] },
                                guard := Option.none },
                              { dst := Option.some 3, op := Go.Op.assign (Go.Operand.tmp 21), type := 3,
                                pos := "regex.go:59",
                                after :=
                                  {
                                    toList :=
                                      [{ on := 4, ground := Go.Ground.data }, { on := 6, ground := Go.Ground.chain },
                                        { on := 0, ground := Go.Ground.phase }, { on := 1, ground := Go.Ground.phase },
                                        { on := 2, ground := Go.Ground.phase }, { on := 3, ground := Go.Ground.phase },
                                        { on := 4, ground := Go.Ground.phase },
                                        { on := 5, ground := Go.Ground.textOnly Go.Departure.lateStores },
                                        { on := 6, ground := Go.Ground.phase }] },
                                guard := Option.none },
                              { dst := Option.some 4, op := Go.Op.assign (Go.Operand.tmp 22), type := 32,
                                pos := "regex.go:59",
                                after :=
                                  {
                                    toList :=
                                      [{ on := 5, ground := Go.Ground.data }, { on := 7, ground := Go.Ground.chain },
                                        { on := 0, ground := Go.Ground.phase }, { on := 1, ground := Go.Ground.phase },
                                        { on := 2, ground := Go.Ground.phase }, { on := 3, ground := Go.Ground.phase },
                                        { on := 4, ground := Go.Ground.phase }, { on := 5, ground := Go.Ground.phase },
                                        { on := 6, ground := Go.Ground.phase },
                                        { on := 7, ground := Go.Ground.phase }] },
                                guard := Option.none }] }).seq
                    Go.Am.QC.ret)
                  Go.Am.QC.skip))).seq
          ((Go.Am.QC.plain
                [{ dst := Option.some 23, g := Go.Am.QG.no, op := Go.Op.move (Go.Operand.tmp 5), type := 65 },
                  { dst := Option.some 24, g := Go.Am.QG.no,
                    op :=
                      Go.Op.call
                        { callee := Go.Callee.value (Go.Operand.func 37), args := { toList := [Go.Operand.tmp 23] },
                          argTypes := { toList := [65] } },
                    type := 71 },
                  { dst := Option.some 25, g := Go.Am.QG.no,
                    op :=
                      Go.Op.call
                        { callee := Go.Callee.value (Go.Operand.func 38), args := { toList := [Go.Operand.tmp 24] },
                          argTypes := { toList := [71] } },
                    type := 27 },
                  { dst := Option.none, g := Go.Am.QG.no, op := Go.Op.store 27 (Go.Operand.tmp 2) (Go.Operand.tmp 25),
                    type := 0 },
                  { dst := Option.some 3, g := Go.Am.QG.no,
                    op := Go.Op.assign (Go.Operand.const (Go.Value.int Go.IntKind.i64 (Int.ofNat 0))), type := 3 },
                  { dst := Option.some 4, g := Go.Am.QG.no,
                    op := Go.Op.assign (Go.Operand.const (Go.Value.int Go.IntKind.i64 (Int.ofNat 0))),
                    type := 32 }]).seq
            Go.Am.QC.ret)))))
theorem q21_ok : bodyComp Tryd.prog 21 = some q21 := by kernel_rfl
noncomputable def q30 : QC :=
  ((Go.Am.QC.plain [{ dst := Option.some 3, g := Go.Am.QG.no, op := Go.Op.box 27 (Go.Operand.tmp 1), type := 0 }]).seq
    ((Go.Am.QC.plain
          [{ dst := Option.some 4, g := Go.Am.QG.no, op := Go.Op.fieldAddr 27 (Go.Operand.tmp 3) 0, type := 0 },
            { dst := Option.some 5, g := Go.Am.QG.no, op := Go.Op.load 3 (Go.Operand.tmp 4), type := 3 }]).seq
      (Go.Am.QC.block 0
        ((Go.Am.QC.plain
              [{ dst := Option.some 19, g := Go.Am.QG.no,
                  op :=
                    Go.Op.binOp Go.BinOp.eql 3 (Go.Operand.tmp 5)
                      (Go.Operand.const (Go.Value.int Go.IntKind.i64 (Int.ofNat 1))) 3,
                  type := 4 },
                { dst := Option.some 18, g := Go.Am.QG.no, op := Go.Op.assign (Go.Operand.tmp 19), type := 4 }]).seq
          (Go.Am.QC.cond (Go.Operand.tmp 18)
            (Go.Am.QC.plain
              [{ dst := Option.some 20, g := Go.Am.QG.no, op := Go.Op.move (Go.Operand.tmp 0), type := 77 },
                { dst := Option.some 21, g := Go.Am.QG.no, op := Go.Op.nilCheck (Go.Operand.tmp 20), type := 0 },
                { dst := Option.some 22, g := Go.Am.QG.no, op := Go.Op.fieldAddr 60 (Go.Operand.tmp 21) 0, type := 0 },
                { dst := Option.some 23, g := Go.Am.QG.no, op := Go.Op.fieldAddr 27 (Go.Operand.tmp 3) 1, type := 0 },
                { dst := Option.some 24, g := Go.Am.QG.no, op := Go.Op.load 3 (Go.Operand.tmp 23), type := 3 },
                { dst := Option.some 25, g := Go.Am.QG.no,
                  op :=
                    Go.Op.call
                      { callee := Go.Callee.value (Go.Operand.func 43), args := { toList := [Go.Operand.tmp 24] },
                        argTypes := { toList := [3] } },
                  type := 9 },
                { dst := Option.some 26, g := Go.Am.QG.no,
                  op :=
                    Go.Op.call
                      { callee := Go.Callee.value (Go.Operand.func 42),
                        args := { toList := [Go.Operand.tmp 22, Go.Operand.tmp 25] },
                        argTypes := { toList := [58, 9] } },
                  type := 80 }])
            ((Go.Am.QC.plain
                  [{ dst := Option.some 28, g := Go.Am.QG.no,
                      op :=
                        Go.Op.binOp Go.BinOp.eql 3 (Go.Operand.tmp 5)
                          (Go.Operand.const (Go.Value.int Go.IntKind.i64 (Int.ofNat 2))) 3,
                      type := 4 },
                    { dst := Option.some 27, g := Go.Am.QG.no, op := Go.Op.assign (Go.Operand.tmp 28), type := 4 }]).seq
              (Go.Am.QC.cond (Go.Operand.tmp 27)
                (Go.Am.QC.plain
                  [{ dst := Option.some 29, g := Go.Am.QG.no, op := Go.Op.move (Go.Operand.tmp 0), type := 77 },
                    { dst := Option.some 30, g := Go.Am.QG.no, op := Go.Op.nilCheck (Go.Operand.tmp 29), type := 0 },
                    { dst := Option.some 31, g := Go.Am.QG.no, op := Go.Op.fieldAddr 60 (Go.Operand.tmp 30) 0,
                      type := 0 },
                    { dst := Option.some 32, g := Go.Am.QG.no,
                      op :=
                        Go.Op.call
                          { callee := Go.Callee.value (Go.Operand.func 42),
                            args :=
                              {
                                toList :=
                                  [Go.Operand.tmp 31,
                                    Go.Operand.const
                                      (Go.Value.string
                                        {
                                          data :=
                                            {
                                              toList :=
                                                [{
                                                    toBitVec :=
                                                      {
                                                        toFin :=
                                                          ⟨48, Nat.mod_lt 48 (BitVec.ofNat._proof_1 8)⟩ } }] } })] },
                            argTypes := { toList := [58, 9] } },
                      type := 80 }])
                ((Go.Am.QC.plain
                      [{ dst := Option.some 34, g := Go.Am.QG.no,
                          op :=
                            Go.Op.binOp Go.BinOp.eql 3 (Go.Operand.tmp 5)
                              (Go.Operand.const (Go.Value.int Go.IntKind.i64 (Int.ofNat 3))) 3,
                          type := 4 },
                        { dst := Option.some 33, g := Go.Am.QG.no, op := Go.Op.assign (Go.Operand.tmp 34),
                          type := 4 }]).seq
                  (Go.Am.QC.cond (Go.Operand.tmp 33)
                    (Go.Am.QC.plain
                      [{ dst := Option.some 35, g := Go.Am.QG.no, op := Go.Op.move (Go.Operand.tmp 0), type := 77 },
                        { dst := Option.some 36, g := Go.Am.QG.no, op := Go.Op.nilCheck (Go.Operand.tmp 35),
                          type := 0 },
                        { dst := Option.some 37, g := Go.Am.QG.no, op := Go.Op.fieldAddr 60 (Go.Operand.tmp 36) 0,
                          type := 0 },
                        { dst := Option.some 38, g := Go.Am.QG.no,
                          op :=
                            Go.Op.call
                              { callee := Go.Callee.value (Go.Operand.func 42),
                                args :=
                                  {
                                    toList :=
                                      [Go.Operand.tmp 37,
                                        Go.Operand.const
                                          (Go.Value.string
                                            {
                                              data :=
                                                {
                                                  toList :=
                                                    [{
                                                        toBitVec :=
                                                          {
                                                            toFin :=
                                                              ⟨95,
                                                                Nat.mod_lt 95 (BitVec.ofNat._proof_1 8)⟩ } }] } })] },
                                argTypes := { toList := [58, 9] } },
                          type := 80 }])
                    ((Go.Am.QC.plain
                          [{ dst := Option.some 40, g := Go.Am.QG.no,
                              op :=
                                Go.Op.binOp Go.BinOp.eql 3 (Go.Operand.tmp 5)
                                  (Go.Operand.const (Go.Value.int Go.IntKind.i64 (Int.ofNat 5))) 3,
                              type := 4 },
                            { dst := Option.some 39, g := Go.Am.QG.no, op := Go.Op.assign (Go.Operand.tmp 40),
                              type := 4 }]).seq
                      (Go.Am.QC.cond (Go.Operand.tmp 39)
                        (Go.Am.QC.plain
                          [{ dst := Option.some 41, g := Go.Am.QG.no, op := Go.Op.move (Go.Operand.tmp 0), type := 77 },
                            { dst := Option.some 42, g := Go.Am.QG.no, op := Go.Op.fieldAddr 27 (Go.Operand.tmp 3) 4,
                              type := 0 },
                            { dst := Option.some 43, g := Go.Am.QG.no, op := Go.Op.load 25 (Go.Operand.tmp 42),
                              type := 25 },
                            { dst := Option.some 44, g := Go.Am.QG.no, op := Go.Op.move (Go.Operand.tmp 0),
                              type := 77 },
                            { dst := Option.some 45, g := Go.Am.QG.no,
                              op := Go.Op.makeFunc (Go.Fn.func 45) { toList := [Go.Operand.tmp 44] } { toList := [] },
                              type := 61 },
                            { dst := Option.some 46, g := Go.Am.QG.no,
                              op :=
                                Go.Op.call
                                  { callee := Go.Callee.value (Go.Operand.func 44),
                                    args :=
                                      {
                                        toList :=
                                          [Go.Operand.tmp 41, Go.Operand.tmp 43, Go.Operand.tmp 45,
                                            Go.Operand.const
                                              (Go.Value.string
                                                {
                                                  data :=
                                                    {
                                                      toList :=
                                                        [{
                                                            toBitVec :=
                                                              {
                                                                toFin :=
                                                                  ⟨124,
                                                                    Nat.mod_lt 124
                                                                      (BitVec.ofNat._proof_1 8)⟩ } }] } })] },
                                    argTypes := { toList := [77, 25, 61, 9] } },
                              type := 0 }])
                        ((Go.Am.QC.plain
                              [{ dst := Option.some 48, g := Go.Am.QG.no,
                                  op :=
                                    Go.Op.binOp Go.BinOp.eql 3 (Go.Operand.tmp 5)
                                      (Go.Operand.const (Go.Value.int Go.IntKind.i64 (Int.ofNat 4))) 3,
                                  type := 4 },
                                { dst := Option.some 47, g := Go.Am.QG.no, op := Go.Op.assign (Go.Operand.tmp 48),
                                  type := 4 }]).seq
                          (Go.Am.QC.cond (Go.Operand.tmp 47)
                            (Go.Am.QC.plain
                              [{ dst := Option.some 49, g := Go.Am.QG.no, op := Go.Op.move (Go.Operand.tmp 0),
                                  type := 77 },
                                { dst := Option.some 50, g := Go.Am.QG.no,
                                  op := Go.Op.fieldAddr 27 (Go.Operand.tmp 3) 4, type := 0 },
                                { dst := Option.some 51, g := Go.Am.QG.no, op := Go.Op.load 25 (Go.Operand.tmp 50),
                                  type := 25 },
                                { dst := Option.some 52, g := Go.Am.QG.no, op := Go.Op.move (Go.Operand.tmp 0),
                                  type := 77 },
                                { dst := Option.some 53, g := Go.Am.QG.no,
                                  op :=
                                    Go.Op.makeFunc (Go.Fn.func 46) { toList := [Go.Operand.tmp 52] } { toList := [] },
                                  type := 61 },
                                { dst := Option.some 54, g := Go.Am.QG.no,
                                  op :=
                                    Go.Op.call
                                      { callee := Go.Callee.value (Go.Operand.func 44),
                                        args :=
                                          {
                                            toList :=
                                              [Go.Operand.tmp 49, Go.Operand.tmp 51, Go.Operand.tmp 53,
                                                Go.Operand.const (Go.Value.string { data := { toList := [] } })] },
                                        argTypes := { toList := [77, 25, 61, 9] } },
                                  type := 0 }])
                            ((Go.Am.QC.plain
                                  [{ dst := Option.some 6, g := Go.Am.QG.no, op := Go.Op.move (Go.Operand.tmp 0),
                                      type := 77 },
                                    { dst := Option.some 7, g := Go.Am.QG.no,
                                      op := Go.Op.fieldAddr 27 (Go.Operand.tmp 3) 4, type := 0 },
                                    { dst := Option.some 8, g := Go.Am.QG.no, op := Go.Op.load 25 (Go.Operand.tmp 7),
                                      type := 25 },
                                    { dst := Option.some 9, g := Go.Am.QG.no, op := Go.Op.move (Go.Operand.tmp 0),
                                      type := 77 },
                                    { dst := Option.some 10, g := Go.Am.QG.no,
                                      op :=
                                        Go.Op.makeFunc (Go.Fn.func 46) { toList := [Go.Operand.tmp 9] }
                                          { toList := [] },
                                      type := 61 },
                                    { dst := Option.some 11, g := Go.Am.QG.no,
                                      op :=
                                        Go.Op.call
                                          { callee := Go.Callee.value (Go.Operand.func 44),
                                            args :=
                                              {
                                                toList :=
                                                  [Go.Operand.tmp 6, Go.Operand.tmp 8, Go.Operand.tmp 10,
                                                    Go.Operand.const (Go.Value.string { data := { toList := [] } })] },
                                            argTypes := { toList := [77, 25, 61, 9] } },
                                      type := 0 }]).seq
                              (Go.Am.QC.plain
                                [{ dst := Option.some 12, g := Go.Am.QG.no, op := Go.Op.move (Go.Operand.tmp 0),
                                    type := 77 },
                                  { dst := Option.some 13, g := Go.Am.QG.no, op := Go.Op.nilCheck (Go.Operand.tmp 12),
                                    type := 0 },
                                  { dst := Option.some 14, g := Go.Am.QG.no,
                                    op := Go.Op.fieldAddr 60 (Go.Operand.tmp 13) 0, type := 0 },
                                  { dst := Option.some 15, g := Go.Am.QG.no, op := Go.Op.load 27 (Go.Operand.tmp 3),
                                    type := 27 },
                                  { dst := Option.some 16, g := Go.Am.QG.no,
                                    op :=
                                      Go.Op.call
                                        { callee := Go.Callee.value (Go.Operand.func 47),
                                          args := { toList := [Go.Operand.tmp 15] }, argTypes := { toList := [27] } },
                                    type := 9 },
                                  { dst := Option.some 17, g := Go.Am.QG.no,
                                    op :=
                                      Go.Op.call
                                        { callee := Go.Callee.value (Go.Operand.func 42),
                                          args := { toList := [Go.Operand.tmp 14, Go.Operand.tmp 16] },
                                          argTypes := { toList := [58, 9] } },
                                    type := 80 }])))))))))))))))
theorem q30_ok : bodyComp Tryd.prog 30 = some q30 := by kernel_rfl
noncomputable def q31 : QC :=
  ((Go.Am.QC.plain
        [{ dst := Option.some 2, g := Go.Am.QG.no,
            op := Go.Op.assign (Go.Operand.const (Go.Value.string { data := { toList := [] } })), type := 9 }]).seq
    ((Go.Am.QC.drawn
          {
            toList :=
              [{ dst := Option.some 3, op := Go.Op.move (Go.Operand.tmp 0), type := 56, pos := "builder.go:47",
                  after := { toList := [] }, guard := Option.none },
                { dst := Option.some 4, op := Go.Op.nilCheck (Go.Operand.tmp 3), type := 0, pos := "builder.go:47",
                  after := { toList := [{ on := 0, ground := Go.Ground.data }] }, guard := Option.none },
                { dst := Option.some 5, op := Go.Op.fieldAddr 58 (Go.Operand.tmp 4) 1, type := 0,
                  pos := "builder.go:47", after := { toList := [{ on := 1, ground := Go.Ground.data }] },
                  guard := Option.none },
                { dst := Option.some 6, op := Go.Op.load 37 (Go.Operand.tmp 5), type := 37, pos := "builder.go:47",
                  after := { toList := [{ on := 2, ground := Go.Ground.data }] }, guard := Option.none },
                { dst := Option.some 7,
                  op :=
                    Go.Op.call
                      { callee := Go.Callee.builtin Go.Builtin.unsafeSliceData,
                        args := { toList := [Go.Operand.tmp 6] }, argTypes := { toList := [37] } },
                  type := 83, pos := "builder.go:47", after := { toList := [{ on := 3, ground := Go.Ground.data }] },
                  guard := Option.none },
                { dst := Option.some 8, op := Go.Op.move (Go.Operand.tmp 0), type := 56, pos := "builder.go:47",
                  after := { toList := [] }, guard := Option.none },
                { dst := Option.some 9, op := Go.Op.nilCheck (Go.Operand.tmp 8), type := 0, pos := "builder.go:47",
                  after := { toList := [{ on := 5, ground := Go.Ground.data }] }, guard := Option.none },
                { dst := Option.some 10, op := Go.Op.fieldAddr 58 (Go.Operand.tmp 9) 1, type := 0,
                  pos := "builder.go:47", after := { toList := [{ on := 6, ground := Go.Ground.data }] },
                  guard := Option.none },
                { dst := Option.some 11, op := Go.Op.load 37 (Go.Operand.tmp 10), type := 37, pos := "builder.go:47",
                  after := { toList := [{ on := 7, ground := Go.Ground.data }] }, guard := Option.none },
                { dst := Option.some 12,
                  op :=
                    Go.Op.call
                      { callee := Go.Callee.builtin Go.Builtin.len, args := { toList := [Go.Operand.tmp 11] },
                        argTypes := { toList := [37] } },
                  type := 3, pos := "builder.go:47", after := { toList := [{ on := 8, ground := Go.Ground.data }] },
                  guard := Option.none },
                { dst := Option.some 13,
                  op :=
                    Go.Op.call
                      { callee := Go.Callee.builtin Go.Builtin.unsafeString,
                        args := { toList := [Go.Operand.tmp 7, Go.Operand.tmp 12] },
                        argTypes := { toList := [83, 3] } },
                  type := 9, pos := "builder.go:47",
                  after := { toList := [{ on := 4, ground := Go.Ground.data }, { on := 9, ground := Go.Ground.data }] },
                  guard := Option.none },
                { dst := Option.some 2, op := Go.Op.assign (Go.Operand.tmp 13), type := 9, pos := "builder.go:47",
                  after :=
                    {
                      toList :=
                        [{ on := 10, ground := Go.Ground.data }, { on := 0, ground := Go.Ground.phase },
                          { on := 1, ground := Go.Ground.phase }, { on := 2, ground := Go.Ground.phase },
                          { on := 3, ground := Go.Ground.phase }, { on := 4, ground := Go.Ground.phase },
                          { on := 5, ground := Go.Ground.phase }, { on := 6, ground := Go.Ground.phase },
                          { on := 7, ground := Go.Ground.phase }, { on := 8, ground := Go.Ground.phase },
                          { on := 9, ground := Go.Ground.phase }, { on := 10, ground := Go.Ground.phase }] },
                  guard := Option.none }] }).seq
      Go.Am.QC.ret))
theorem q31_ok : bodyComp Tryd.prog 31 = some q31 := by kernel_rfl
noncomputable def q34 : QC :=
  ((Go.Am.QC.plain
        [{ dst := Option.some 1, g := Go.Am.QG.no, op := Go.Op.box 27 (Go.Operand.tmp 0), type := 0 },
          { dst := Option.some 2, g := Go.Am.QG.no, op := Go.Op.assign (Go.Operand.const (Go.Value.bool Bool.false)),
            type := 4 }]).seq
    (((Go.Am.QC.plain
              [{ dst := Option.some 3, g := Go.Am.QG.no, op := Go.Op.fieldAddr 27 (Go.Operand.tmp 1) 0, type := 0 },
                { dst := Option.some 4, g := Go.Am.QG.no, op := Go.Op.load 3 (Go.Operand.tmp 3), type := 3 }]).seq
          (Go.Am.QC.block 0
            ((Go.Am.QC.plain
                  [{ dst := Option.some 6, g := Go.Am.QG.no,
                      op :=
                        Go.Op.binOp Go.BinOp.eql 3 (Go.Operand.tmp 4)
                          (Go.Operand.const (Go.Value.int Go.IntKind.i64 (Int.ofNat 1))) 3,
                      type := 4 },
                    { dst := Option.some 5, g := Go.Am.QG.no, op := Go.Op.assign (Go.Operand.tmp 6), type := 4 }]).seq
              (Go.Am.QC.cond (Go.Operand.tmp 5)
                ((Go.Am.QC.plain
                      [{ dst := Option.some 7, g := Go.Am.QG.no, op := Go.Op.fieldAddr 27 (Go.Operand.tmp 1) 1,
                          type := 0 },
                        { dst := Option.some 8, g := Go.Am.QG.no, op := Go.Op.load 3 (Go.Operand.tmp 7), type := 3 },
                        { dst := Option.some 9, g := Go.Am.QG.no,
                          op :=
                            Go.Op.binOp Go.BinOp.geq 3 (Go.Operand.tmp 8)
                              (Go.Operand.const (Go.Value.int Go.IntKind.i64 (Int.ofNat 1))) 3,
                          type := 4 },
                        { dst := Option.some 10, g := Go.Am.QG.no, op := Go.Op.move (Go.Operand.tmp 9), type := 4 },
                        { dst := Option.some 11, g := Go.Am.QG.at 10 Bool.true,
                          op := Go.Op.fieldAddr 27 (Go.Operand.tmp 1) 1, type := 0 },
                        { dst := Option.some 12, g := Go.Am.QG.at 10 Bool.true, op := Go.Op.load 3 (Go.Operand.tmp 11),
                          type := 3 },
                        { dst := Option.some 13, g := Go.Am.QG.at 10 Bool.true,
                          op :=
                            Go.Op.binOp Go.BinOp.leq 3 (Go.Operand.tmp 12)
                              (Go.Operand.const (Go.Value.int Go.IntKind.i64 (Int.ofNat 31))) 3,
                          type := 4 },
                        { dst := Option.some 14, g := Go.Am.QG.no,
                          op :=
                            Go.Op.pick (Go.Operand.tmp 10) (Go.Operand.tmp 13)
                              (Go.Operand.const (Go.Value.bool Bool.false)),
                          type := 4 },
                        { dst := Option.some 15, g := Go.Am.QG.no, op := Go.Op.move (Go.Operand.tmp 14), type := 4 },
                        { dst := Option.some 16, g := Go.Am.QG.at 15 Bool.true,
                          op := Go.Op.fieldAddr 27 (Go.Operand.tmp 1) 2, type := 0 },
                        { dst := Option.some 17, g := Go.Am.QG.at 15 Bool.true, op := Go.Op.load 3 (Go.Operand.tmp 16),
                          type := 3 },
                        { dst := Option.some 18, g := Go.Am.QG.at 15 Bool.true,
                          op :=
                            Go.Op.binOp Go.BinOp.eql 3 (Go.Operand.tmp 17)
                              (Go.Operand.const (Go.Value.int Go.IntKind.i64 (Int.ofNat 0))) 3,
                          type := 4 },
                        { dst := Option.some 19, g := Go.Am.QG.no,
                          op :=
                            Go.Op.pick (Go.Operand.tmp 15) (Go.Operand.tmp 18)
                              (Go.Operand.const (Go.Value.bool Bool.false)),
                          type := 4 },
                        { dst := Option.some 20, g := Go.Am.QG.no, op := Go.Op.move (Go.Operand.tmp 19), type := 4 },
                        { dst := Option.some 21, g := Go.Am.QG.at 20 Bool.true,
                          op := Go.Op.fieldAddr 27 (Go.Operand.tmp 1) 3, type := 0 },
                        { dst := Option.some 22, g := Go.Am.QG.at 20 Bool.true, op := Go.Op.load 3 (Go.Operand.tmp 21),
                          type := 3 },
                        { dst := Option.some 23, g := Go.Am.QG.at 20 Bool.true,
                          op :=
                            Go.Op.binOp Go.BinOp.eql 3 (Go.Operand.tmp 22)
                              (Go.Operand.const (Go.Value.int Go.IntKind.i64 (Int.ofNat 0))) 3,
                          type := 4 },
                        { dst := Option.some 24, g := Go.Am.QG.no,
                          op :=
                            Go.Op.pick (Go.Operand.tmp 20) (Go.Operand.tmp 23)
                              (Go.Operand.const (Go.Value.bool Bool.false)),
                          type := 4 },
                        { dst := Option.some 25, g := Go.Am.QG.no, op := Go.Op.move (Go.Operand.tmp 24), type := 4 },
                        { dst := Option.some 26, g := Go.Am.QG.at 25 Bool.true,
                          op := Go.Op.fieldAddr 27 (Go.Operand.tmp 1) 4, type := 0 },
                        { dst := Option.some 27, g := Go.Am.QG.at 25 Bool.true, op := Go.Op.load 25 (Go.Operand.tmp 26),
                          type := 25 },
                        { dst := Option.some 28, g := Go.Am.QG.at 25 Bool.true,
                          op :=
                            Go.Op.call
                              { callee := Go.Callee.builtin Go.Builtin.len, args := { toList := [Go.Operand.tmp 27] },
                                argTypes := { toList := [25] } },
                          type := 3 },
                        { dst := Option.some 29, g := Go.Am.QG.at 25 Bool.true,
                          op :=
                            Go.Op.binOp Go.BinOp.eql 3 (Go.Operand.tmp 28)
                              (Go.Operand.const (Go.Value.int Go.IntKind.i64 (Int.ofNat 0))) 3,
                          type := 4 },
                        { dst := Option.some 30, g := Go.Am.QG.no,
                          op :=
                            Go.Op.pick (Go.Operand.tmp 25) (Go.Operand.tmp 29)
                              (Go.Operand.const (Go.Value.bool Bool.false)),
                          type := 4 },
                        { dst := Option.some 2, g := Go.Am.QG.no, op := Go.Op.assign (Go.Operand.tmp 30),
                          type := 4 }]).seq
                  Go.Am.QC.ret)
                (((Go.Am.QC.plain
                          [{ dst := Option.some 32, g := Go.Am.QG.no,
                              op :=
                                Go.Op.binOp Go.BinOp.eql 3 (Go.Operand.tmp 4)
                                  (Go.Operand.const (Go.Value.int Go.IntKind.i64 (Int.ofNat 2))) 3,
                              type := 4 },
                            { dst := Option.some 31, g := Go.Am.QG.no, op := Go.Op.assign (Go.Operand.tmp 32),
                              type := 4 }]).seq
                      (Go.Am.QC.cond (Go.Operand.tmp 31) Go.Am.QC.skip
                        (Go.Am.QC.plain
                          [{ dst := Option.some 33, g := Go.Am.QG.no,
                              op :=
                                Go.Op.binOp Go.BinOp.eql 3 (Go.Operand.tmp 4)
                                  (Go.Operand.const (Go.Value.int Go.IntKind.i64 (Int.ofNat 3))) 3,
                              type := 4 },
                            { dst := Option.some 31, g := Go.Am.QG.no, op := Go.Op.assign (Go.Operand.tmp 33),
                              type := 4 }]))).seq
                  (Go.Am.QC.cond (Go.Operand.tmp 31)
                    ((Go.Am.QC.plain
                          [{ dst := Option.some 34, g := Go.Am.QG.no, op := Go.Op.load 27 (Go.Operand.tmp 1),
                              type := 27 },
                            { dst := Option.some 35, g := Go.Am.QG.no,
                              op :=
                                Go.Op.call
                                  { callee := Go.Callee.value (Go.Operand.func 48),
                                    args := { toList := [Go.Operand.tmp 34] }, argTypes := { toList := [27] } },
                              type := 4 },
                            { dst := Option.some 36, g := Go.Am.QG.no, op := Go.Op.move (Go.Operand.tmp 35),
                              type := 4 },
                            { dst := Option.some 37, g := Go.Am.QG.at 36 Bool.true,
                              op := Go.Op.fieldAddr 27 (Go.Operand.tmp 1) 4, type := 0 },
                            { dst := Option.some 38, g := Go.Am.QG.at 36 Bool.true,
                              op := Go.Op.load 25 (Go.Operand.tmp 37), type := 25 },
                            { dst := Option.some 39, g := Go.Am.QG.at 36 Bool.true,
                              op :=
                                Go.Op.call
                                  { callee := Go.Callee.builtin Go.Builtin.len,
                                    args := { toList := [Go.Operand.tmp 38] }, argTypes := { toList := [25] } },
                              type := 3 },
                            { dst := Option.some 40, g := Go.Am.QG.at 36 Bool.true,
                              op :=
                                Go.Op.binOp Go.BinOp.eql 3 (Go.Operand.tmp 39)
                                  (Go.Operand.const (Go.Value.int Go.IntKind.i64 (Int.ofNat 0))) 3,
                              type := 4 },
                            { dst := Option.some 41, g := Go.Am.QG.no,
                              op :=
                                Go.Op.pick (Go.Operand.tmp 36) (Go.Operand.tmp 40)
                                  (Go.Operand.const (Go.Value.bool Bool.false)),
                              type := 4 },
                            { dst := Option.some 2, g := Go.Am.QG.no, op := Go.Op.assign (Go.Operand.tmp 41),
                              type := 4 }]).seq
                      Go.Am.QC.ret)
                    (((Go.Am.QC.plain
                              [{ dst := Option.some 43, g := Go.Am.QG.no,
                                  op :=
                                    Go.Op.binOp Go.BinOp.eql 3 (Go.Operand.tmp 4)
                                      (Go.Operand.const (Go.Value.int Go.IntKind.i64 (Int.ofNat 4))) 3,
                                  type := 4 },
                                { dst := Option.some 42, g := Go.Am.QG.no, op := Go.Op.assign (Go.Operand.tmp 43),
                                  type := 4 }]).seq
                          (Go.Am.QC.cond (Go.Operand.tmp 42) Go.Am.QC.skip
                            (Go.Am.QC.plain
                              [{ dst := Option.some 44, g := Go.Am.QG.no,
                                  op :=
                                    Go.Op.binOp Go.BinOp.eql 3 (Go.Operand.tmp 4)
                                      (Go.Operand.const (Go.Value.int Go.IntKind.i64 (Int.ofNat 5))) 3,
                                  type := 4 },
                                { dst := Option.some 42, g := Go.Am.QG.no, op := Go.Op.assign (Go.Operand.tmp 44),
                                  type := 4 }]))).seq
                      (Go.Am.QC.cond (Go.Operand.tmp 42)
                        ((Go.Am.QC.plain
                              [{ dst := Option.some 45, g := Go.Am.QG.no, op := Go.Op.load 27 (Go.Operand.tmp 1),
                                  type := 27 },
                                { dst := Option.some 46, g := Go.Am.QG.no,
                                  op :=
                                    Go.Op.call
                                      { callee := Go.Callee.value (Go.Operand.func 48),
                                        args := { toList := [Go.Operand.tmp 45] }, argTypes := { toList := [27] } },
                                  type := 4 },
                                { dst := Option.some 47, g := Go.Am.QG.no, op := Go.Op.move (Go.Operand.tmp 46),
                                  type := 4 },
                                { dst := Option.some 48, g := Go.Am.QG.at 47 Bool.true,
                                  op := Go.Op.fieldAddr 27 (Go.Operand.tmp 1) 4, type := 0 },
                                { dst := Option.some 49, g := Go.Am.QG.at 47 Bool.true,
                                  op := Go.Op.load 25 (Go.Operand.tmp 48), type := 25 },
                                { dst := Option.some 50, g := Go.Am.QG.at 47 Bool.true,
                                  op :=
                                    Go.Op.call
                                      { callee := Go.Callee.builtin Go.Builtin.len,
                                        args := { toList := [Go.Operand.tmp 49] }, argTypes := { toList := [25] } },
                                  type := 3 },
                                { dst := Option.some 51, g := Go.Am.QG.at 47 Bool.true,
                                  op :=
                                    Go.Op.binOp Go.BinOp.geq 3 (Go.Operand.tmp 50)
                                      (Go.Operand.const (Go.Value.int Go.IntKind.i64 (Int.ofNat 2))) 3,
                                  type := 4 },
                                { dst := Option.some 52, g := Go.Am.QG.no,
                                  op :=
                                    Go.Op.pick (Go.Operand.tmp 47) (Go.Operand.tmp 51)
                                      (Go.Operand.const (Go.Value.bool Bool.false)),
                                  type := 4 },
                                { dst := Option.some 2, g := Go.Am.QG.no, op := Go.Op.assign (Go.Operand.tmp 52),
                                  type := 4 }]).seq
                          Go.Am.QC.ret)
                        (((Go.Am.QC.plain
                                  [{ dst := Option.some 54, g := Go.Am.QG.no,
                                      op :=
                                        Go.Op.binOp Go.BinOp.eql 3 (Go.Operand.tmp 4)
                                          (Go.Operand.const (Go.Value.int Go.IntKind.i64 (Int.ofNat 6))) 3,
                                      type := 4 },
                                    { dst := Option.some 53, g := Go.Am.QG.no, op := Go.Op.assign (Go.Operand.tmp 54),
                                      type := 4 }]).seq
                              (Go.Am.QC.cond (Go.Operand.tmp 53) Go.Am.QC.skip
                                ((Go.Am.QC.plain
                                      [{ dst := Option.some 55, g := Go.Am.QG.no,
                                          op :=
                                            Go.Op.binOp Go.BinOp.eql 3 (Go.Operand.tmp 4)
                                              (Go.Operand.const (Go.Value.int Go.IntKind.i64 (Int.ofNat 7))) 3,
                                          type := 4 },
                                        { dst := Option.some 53, g := Go.Am.QG.no,
                                          op := Go.Op.assign (Go.Operand.tmp 55), type := 4 }]).seq
                                  (Go.Am.QC.cond (Go.Operand.tmp 53) Go.Am.QC.skip
                                    (Go.Am.QC.plain
                                      [{ dst := Option.some 56, g := Go.Am.QG.no,
                                          op :=
                                            Go.Op.binOp Go.BinOp.eql 3 (Go.Operand.tmp 4)
                                              (Go.Operand.const (Go.Value.int Go.IntKind.i64 (Int.ofNat 8))) 3,
                                          type := 4 },
                                        { dst := Option.some 53, g := Go.Am.QG.no,
                                          op := Go.Op.assign (Go.Operand.tmp 56), type := 4 }]))))).seq
                          (Go.Am.QC.cond (Go.Operand.tmp 53)
                            ((Go.Am.QC.plain
                                  [{ dst := Option.some 57, g := Go.Am.QG.no, op := Go.Op.load 27 (Go.Operand.tmp 1),
                                      type := 27 },
                                    { dst := Option.some 58, g := Go.Am.QG.no,
                                      op :=
                                        Go.Op.call
                                          { callee := Go.Callee.value (Go.Operand.func 48),
                                            args := { toList := [Go.Operand.tmp 57] }, argTypes := { toList := [27] } },
                                      type := 4 },
                                    { dst := Option.some 59, g := Go.Am.QG.no, op := Go.Op.move (Go.Operand.tmp 58),
                                      type := 4 },
                                    { dst := Option.some 60, g := Go.Am.QG.at 59 Bool.true,
                                      op := Go.Op.fieldAddr 27 (Go.Operand.tmp 1) 4, type := 0 },
                                    { dst := Option.some 61, g := Go.Am.QG.at 59 Bool.true,
                                      op := Go.Op.load 25 (Go.Operand.tmp 60), type := 25 },
                                    { dst := Option.some 62, g := Go.Am.QG.at 59 Bool.true,
                                      op :=
                                        Go.Op.call
                                          { callee := Go.Callee.builtin Go.Builtin.len,
                                            args := { toList := [Go.Operand.tmp 61] }, argTypes := { toList := [25] } },
                                      type := 3 },
                                    { dst := Option.some 63, g := Go.Am.QG.at 59 Bool.true,
                                      op :=
                                        Go.Op.binOp Go.BinOp.eql 3 (Go.Operand.tmp 62)
                                          (Go.Operand.const (Go.Value.int Go.IntKind.i64 (Int.ofNat 1))) 3,
                                      type := 4 },
                                    { dst := Option.some 64, g := Go.Am.QG.no,
                                      op :=
                                        Go.Op.pick (Go.Operand.tmp 59) (Go.Operand.tmp 63)
                                          (Go.Operand.const (Go.Value.bool Bool.false)),
                                      type := 4 },
                                    { dst := Option.some 2, g := Go.Am.QG.no, op := Go.Op.assign (Go.Operand.tmp 64),
                                      type := 4 }]).seq
                              Go.Am.QC.ret)
                            ((Go.Am.QC.plain
                                  [{ dst := Option.some 66, g := Go.Am.QG.no,
                                      op :=
                                        Go.Op.binOp Go.BinOp.eql 3 (Go.Operand.tmp 4)
                                          (Go.Operand.const (Go.Value.int Go.IntKind.i64 (Int.ofNat 9))) 3,
                                      type := 4 },
                                    { dst := Option.some 65, g := Go.Am.QG.no, op := Go.Op.assign (Go.Operand.tmp 66),
                                      type := 4 }]).seq
                              (Go.Am.QC.cond (Go.Operand.tmp 65)
                                ((Go.Am.QC.plain
                                      [{ dst := Option.some 67, g := Go.Am.QG.no,
                                          op := Go.Op.fieldAddr 27 (Go.Operand.tmp 1) 1, type := 0 },
                                        { dst := Option.some 68, g := Go.Am.QG.no,
                                          op := Go.Op.load 3 (Go.Operand.tmp 67), type := 3 },
                                        { dst := Option.some 69, g := Go.Am.QG.no,
                                          op :=
                                            Go.Op.binOp Go.BinOp.eql 3 (Go.Operand.tmp 68)
                                              (Go.Operand.const (Go.Value.int Go.IntKind.i64 (Int.ofNat 0))) 3,
                                          type := 4 },
                                        { dst := Option.some 70, g := Go.Am.QG.no, op := Go.Op.move (Go.Operand.tmp 69),
                                          type := 4 },
                                        { dst := Option.some 71, g := Go.Am.QG.at 70 Bool.true,
                                          op := Go.Op.fieldAddr 27 (Go.Operand.tmp 1) 2, type := 0 },
                                        { dst := Option.some 72, g := Go.Am.QG.at 70 Bool.true,
                                          op := Go.Op.load 3 (Go.Operand.tmp 71), type := 3 },
                                        { dst := Option.some 73, g := Go.Am.QG.at 70 Bool.true,
                                          op := Go.Op.fieldAddr 27 (Go.Operand.tmp 1) 3, type := 0 },
                                        { dst := Option.some 74, g := Go.Am.QG.at 70 Bool.true,
                                          op := Go.Op.load 3 (Go.Operand.tmp 73), type := 3 },
                                        { dst := Option.some 75, g := Go.Am.QG.at 70 Bool.true,
                                          op :=
                                            Go.Op.call
                                              { callee := Go.Callee.value (Go.Operand.func 49),
                                                args := { toList := [Go.Operand.tmp 72, Go.Operand.tmp 74] },
                                                argTypes := { toList := [3, 3] } },
                                          type := 4 },
                                        { dst := Option.some 76, g := Go.Am.QG.no,
                                          op :=
                                            Go.Op.pick (Go.Operand.tmp 70) (Go.Operand.tmp 75)
                                              (Go.Operand.const (Go.Value.bool Bool.false)),
                                          type := 4 },
                                        { dst := Option.some 77, g := Go.Am.QG.no, op := Go.Op.move (Go.Operand.tmp 76),
                                          type := 4 },
                                        { dst := Option.some 78, g := Go.Am.QG.at 77 Bool.true,
                                          op := Go.Op.fieldAddr 27 (Go.Operand.tmp 1) 4, type := 0 },
                                        { dst := Option.some 79, g := Go.Am.QG.at 77 Bool.true,
                                          op := Go.Op.load 25 (Go.Operand.tmp 78), type := 25 },
                                        { dst := Option.some 80, g := Go.Am.QG.at 77 Bool.true,
                                          op :=
                                            Go.Op.call
                                              { callee := Go.Callee.builtin Go.Builtin.len,
                                                args := { toList := [Go.Operand.tmp 79] },
                                                argTypes := { toList := [25] } },
                                          type := 3 },
                                        { dst := Option.some 81, g := Go.Am.QG.at 77 Bool.true,
                                          op :=
                                            Go.Op.binOp Go.BinOp.eql 3 (Go.Operand.tmp 80)
                                              (Go.Operand.const (Go.Value.int Go.IntKind.i64 (Int.ofNat 1))) 3,
                                          type := 4 },
                                        { dst := Option.some 82, g := Go.Am.QG.no,
                                          op :=
                                            Go.Op.pick (Go.Operand.tmp 77) (Go.Operand.tmp 81)
                                              (Go.Operand.const (Go.Value.bool Bool.false)),
                                          type := 4 },
                                        { dst := Option.some 2, g := Go.Am.QG.no,
                                          op := Go.Op.assign (Go.Operand.tmp 82), type := 4 }]).seq
                                  Go.Am.QC.ret)
                                Go.Am.QC.skip)))))))))))).seq
      ((Go.Am.QC.plain
            [{ dst := Option.some 2, g := Go.Am.QG.no, op := Go.Op.assign (Go.Operand.const (Go.Value.bool Bool.false)),
                type := 4 }]).seq
        Go.Am.QC.ret)))
theorem q34_ok : bodyComp Tryd.prog 34 = some q34 := by kernel_rfl
noncomputable def q35 : QC :=
  ((Go.Am.QC.plain
        [{ dst := Option.some 2, g := Go.Am.QG.no, op := Go.Op.assign (Go.Operand.const (Go.Value.pointer Option.none)),
            type := 65 }]).seq
    ((Go.Am.QC.plain
          [{ dst := Option.some 3, g := Go.Am.QG.no, op := Go.Op.move (Go.Operand.tmp 0), type := 9 },
            { dst := Option.some 4, g := Go.Am.QG.no,
              op :=
                Go.Op.makeSlice 68 (Go.Operand.const (Go.Value.int Go.IntKind.i64 (Int.ofNat 1)))
                  (Go.Operand.const (Go.Value.int Go.IntKind.i64 (Int.ofNat 1))),
              type := 68 },
            { dst := Option.some 5, g := Go.Am.QG.no,
              op := Go.Op.build 70 { toList := [(0, Go.Operand.tmp 3), (2, Go.Operand.tmp 4)] }, type := 70 },
            { dst := Option.some 6, g := Go.Am.QG.no, op := Go.Op.box 70 (Go.Operand.tmp 5), type := 65 },
            { dst := Option.some 2, g := Go.Am.QG.no, op := Go.Op.assign (Go.Operand.tmp 6), type := 65 }]).seq
      Go.Am.QC.ret))
theorem q35_ok : bodyComp Tryd.prog 35 = some q35 := by kernel_rfl
noncomputable def q36 : QC :=
  ((Go.Am.QC.plain
        [{ dst := Option.some 2, g := Go.Am.QG.no,
            op := Go.Op.assign (Go.Operand.const (Go.Value.int Go.IntKind.i64 (Int.ofNat 0))), type := 32 }]).seq
    ((Go.Am.QC.label 0).seq
        ((Go.Am.QC.block 0
              ((Go.Am.QC.plain
                    [{ dst := Option.some 4, g := Go.Am.QG.no, op := Go.Op.move (Go.Operand.tmp 0), type := 65 },
                      { dst := Option.some 5, g := Go.Am.QG.no,
                        op :=
                          Go.Op.call
                            { callee := Go.Callee.value (Go.Operand.func 50),
                              args :=
                                {
                                  toList :=
                                    [Go.Operand.tmp 4, Go.Operand.const (Go.Value.int Go.IntKind.u8 (Int.ofNat 40))] },
                              argTypes := { toList := [65, 5] } },
                        type := 4 },
                      { dst := Option.some 3, g := Go.Am.QG.no, op := Go.Op.assign (Go.Operand.tmp 5), type := 4 }]).seq
                (Go.Am.QC.cond (Go.Operand.tmp 3)
                  (((Go.Am.QC.plain
                            [{ dst := Option.some 6, g := Go.Am.QG.no, op := Go.Op.move (Go.Operand.tmp 0),
                                type := 65 },
                              { dst := Option.some 7, g := Go.Am.QG.no, op := Go.Op.nilCheck (Go.Operand.tmp 6),
                                type := 0 },
                              { dst := Option.some 8, g := Go.Am.QG.no, op := Go.Op.fieldAddr 70 (Go.Operand.tmp 7) 2,
                                type := 0 },
                              { dst := Option.some 9, g := Go.Am.QG.no, op := Go.Op.load 68 (Go.Operand.tmp 8),
                                type := 68 },
                              { dst := Option.some 10, g := Go.Am.QG.no,
                                op :=
                                  Go.Op.call
                                    { callee := Go.Callee.builtin Go.Builtin.len,
                                      args := { toList := [Go.Operand.tmp 9] }, argTypes := { toList := [68] } },
                                type := 3 },
                              { dst := Option.some 11, g := Go.Am.QG.no,
                                op :=
                                  Go.Op.binOp Go.BinOp.gtr 3 (Go.Operand.tmp 10)
                                    (Go.Operand.const (Go.Value.int Go.IntKind.i64 (Int.ofNat 30))) 3,
                                type := 4 }]).seq
                        (Go.Am.QC.cond (Go.Operand.tmp 11)
                          ((Go.Am.QC.plain
                                [{ dst := Option.some 12, g := Go.Am.QG.no, op := Go.Op.move (Go.Operand.tmp 0),
                                    type := 65 },
                                  { dst := Option.some 13, g := Go.Am.QG.no, op := Go.Op.nilCheck (Go.Operand.tmp 12),
                                    type := 0 },
                                  { dst := Option.some 14, g := Go.Am.QG.no,
                                    op := Go.Op.fieldAddr 70 (Go.Operand.tmp 13) 1, type := 0 },
                                  { dst := Option.some 15, g := Go.Am.QG.no, op := Go.Op.load 3 (Go.Operand.tmp 14),
                                    type := 3 },
                                  { dst := Option.some 16, g := Go.Am.QG.no,
                                    op :=
                                      Go.Op.binOp Go.BinOp.sub 3 (Go.Operand.tmp 15)
                                        (Go.Operand.const (Go.Value.int Go.IntKind.i64 (Int.ofNat 1))) 3,
                                    type := 3 },
                                  { dst := Option.some 17, g := Go.Am.QG.no, op := Go.Op.nilCheck (Go.Operand.tmp 12),
                                    type := 0 },
                                  { dst := Option.some 18, g := Go.Am.QG.no,
                                    op := Go.Op.fieldAddr 70 (Go.Operand.tmp 17) 1, type := 0 },
                                  { dst := Option.none, g := Go.Am.QG.no,
                                    op := Go.Op.store 3 (Go.Operand.tmp 18) (Go.Operand.tmp 16), type := 0 }]).seq
                            ((Go.Am.QC.plain
                                  [{ dst := Option.some 2, g := Go.Am.QG.no,
                                      op := Go.Op.assign (Go.Operand.const (Go.Value.int Go.IntKind.i64 (Int.ofNat 4))),
                                      type := 32 }]).seq
                              Go.Am.QC.ret))
                          Go.Am.QC.skip)).seq
                    ((Go.Am.QC.plain
                          [{ dst := Option.some 19, g := Go.Am.QG.no, op := Go.Op.move (Go.Operand.tmp 0), type := 65 },
                            { dst := Option.some 20, g := Go.Am.QG.no, op := Go.Op.move (Go.Operand.tmp 0),
                              type := 65 },
                            { dst := Option.some 21, g := Go.Am.QG.no, op := Go.Op.nilCheck (Go.Operand.tmp 20),
                              type := 0 },
                            { dst := Option.some 22, g := Go.Am.QG.no, op := Go.Op.fieldAddr 70 (Go.Operand.tmp 21) 2,
                              type := 0 },
                            { dst := Option.some 23, g := Go.Am.QG.no, op := Go.Op.load 68 (Go.Operand.tmp 22),
                              type := 68 },
                            { dst := Option.some 24, g := Go.Am.QG.no, op := Go.Op.build 87 { toList := [] },
                              type := 87 },
                            { dst := Option.some 25, g := Go.Am.QG.no,
                              op := Go.Op.buildSlice 68 1 { toList := [(0, Go.Operand.tmp 24)] }, type := 68 },
                            { dst := Option.some 26, g := Go.Am.QG.no,
                              op :=
                                Go.Op.call
                                  { callee := Go.Callee.builtin Go.Builtin.append,
                                    args := { toList := [Go.Operand.tmp 23, Go.Operand.tmp 25] },
                                    argTypes := { toList := [68, 68] } },
                              type := 68 },
                            { dst := Option.some 27, g := Go.Am.QG.no, op := Go.Op.nilCheck (Go.Operand.tmp 19),
                              type := 0 },
                            { dst := Option.some 28, g := Go.Am.QG.no, op := Go.Op.fieldAddr 70 (Go.Operand.tmp 27) 2,
                              type := 0 },
                            { dst := Option.none, g := Go.Am.QG.no,
                              op := Go.Op.store 68 (Go.Operand.tmp 28) (Go.Operand.tmp 26), type := 0 }]).seq
                      (Go.Am.QC.goto 0)))
                  ((Go.Am.QC.plain
                        [{ dst := Option.some 30, g := Go.Am.QG.no, op := Go.Op.move (Go.Operand.tmp 0), type := 65 },
                          { dst := Option.some 31, g := Go.Am.QG.no,
                            op :=
                              Go.Op.call
                                { callee := Go.Callee.value (Go.Operand.func 51),
                                  args := { toList := [Go.Operand.tmp 30] }, argTypes := { toList := [65] } },
                            type := 4 },
                          { dst := Option.some 29, g := Go.Am.QG.no, op := Go.Op.assign (Go.Operand.tmp 31),
                            type := 4 }]).seq
                    (Go.Am.QC.cond (Go.Operand.tmp 29) (Go.Am.QC.goto 1) Go.Am.QC.skip))))).seq
          (((Go.Am.QC.plain
                    [{ dst := Option.some 2, g := Go.Am.QG.no,
                        op := Go.Op.assign (Go.Operand.const (Go.Value.int Go.IntKind.i64 (Int.ofNat 3))),
                        type := 32 }]).seq
                Go.Am.QC.ret).seq
            ((Go.Am.QC.label 1).seq
              ((Go.Am.QC.block 1
                    ((Go.Am.QC.plain
                          [{ dst := Option.some 33, g := Go.Am.QG.no, op := Go.Op.move (Go.Operand.tmp 0), type := 65 },
                            { dst := Option.some 34, g := Go.Am.QG.no,
                              op :=
                                Go.Op.call
                                  { callee := Go.Callee.value (Go.Operand.func 50),
                                    args :=
                                      {
                                        toList :=
                                          [Go.Operand.tmp 33,
                                            Go.Operand.const (Go.Value.int Go.IntKind.u8 (Int.ofNat 42))] },
                                    argTypes := { toList := [65, 5] } },
                              type := 4 },
                            { dst := Option.some 32, g := Go.Am.QG.no, op := Go.Op.assign (Go.Operand.tmp 34),
                              type := 4 }]).seq
                      (Go.Am.QC.cond (Go.Operand.tmp 32)
                        ((Go.Am.QC.plain
                              [{ dst := Option.some 35, g := Go.Am.QG.no, op := Go.Op.move (Go.Operand.tmp 0),
                                  type := 65 },
                                { dst := Option.some 36, g := Go.Am.QG.no,
                                  op :=
                                    Go.Op.build 27
                                      { toList := [(0, Go.Operand.const (Go.Value.int Go.IntKind.i64 (Int.ofNat 6)))] },
                                  type := 27 },
                                { dst := Option.some 37, g := Go.Am.QG.no,
                                  op :=
                                    Go.Op.call
                                      { callee := Go.Callee.value (Go.Operand.func 52),
                                        args := { toList := [Go.Operand.tmp 35, Go.Operand.tmp 36] },
                                        argTypes := { toList := [65, 27] } },
                                  type := 0 }]).seq
                          (Go.Am.QC.goto 1))
                        ((Go.Am.QC.plain
                              [{ dst := Option.some 39, g := Go.Am.QG.no, op := Go.Op.move (Go.Operand.tmp 0),
                                  type := 65 },
                                { dst := Option.some 40, g := Go.Am.QG.no,
                                  op :=
                                    Go.Op.call
                                      { callee := Go.Callee.value (Go.Operand.func 50),
                                        args :=
                                          {
                                            toList :=
                                              [Go.Operand.tmp 39,
                                                Go.Operand.const (Go.Value.int Go.IntKind.u8 (Int.ofNat 43))] },
                                        argTypes := { toList := [65, 5] } },
                                  type := 4 },
                                { dst := Option.some 38, g := Go.Am.QG.no, op := Go.Op.assign (Go.Operand.tmp 40),
                                  type := 4 }]).seq
                          (Go.Am.QC.cond (Go.Operand.tmp 38)
                            ((Go.Am.QC.plain
                                  [{ dst := Option.some 41, g := Go.Am.QG.no, op := Go.Op.move (Go.Operand.tmp 0),
                                      type := 65 },
                                    { dst := Option.some 42, g := Go.Am.QG.no,
                                      op :=
                                        Go.Op.build 27
                                          {
                                            toList :=
                                              [(0, Go.Operand.const (Go.Value.int Go.IntKind.i64 (Int.ofNat 7)))] },
                                      type := 27 },
                                    { dst := Option.some 43, g := Go.Am.QG.no,
                                      op :=
                                        Go.Op.call
                                          { callee := Go.Callee.value (Go.Operand.func 52),
                                            args := { toList := [Go.Operand.tmp 41, Go.Operand.tmp 42] },
                                            argTypes := { toList := [65, 27] } },
                                      type := 0 }]).seq
                              (Go.Am.QC.goto 1))
                            ((Go.Am.QC.plain
                                  [{ dst := Option.some 45, g := Go.Am.QG.no, op := Go.Op.move (Go.Operand.tmp 0),
                                      type := 65 },
                                    { dst := Option.some 46, g := Go.Am.QG.no,
                                      op :=
                                        Go.Op.call
                                          { callee := Go.Callee.value (Go.Operand.func 50),
                                            args :=
                                              {
                                                toList :=
                                                  [Go.Operand.tmp 45,
                                                    Go.Operand.const (Go.Value.int Go.IntKind.u8 (Int.ofNat 63))] },
                                            argTypes := { toList := [65, 5] } },
                                      type := 4 },
                                    { dst := Option.some 44, g := Go.Am.QG.no, op := Go.Op.assign (Go.Operand.tmp 46),
                                      type := 4 }]).seq
                              (Go.Am.QC.cond (Go.Operand.tmp 44)
                                ((Go.Am.QC.plain
                                      [{ dst := Option.some 47, g := Go.Am.QG.no, op := Go.Op.move (Go.Operand.tmp 0),
                                          type := 65 },
                                        { dst := Option.some 48, g := Go.Am.QG.no,
                                          op :=
                                            Go.Op.build 27
                                              {
                                                toList :=
                                                  [(0, Go.Operand.const (Go.Value.int Go.IntKind.i64 (Int.ofNat 8)))] },
                                          type := 27 },
                                        { dst := Option.some 49, g := Go.Am.QG.no,
                                          op :=
                                            Go.Op.call
                                              { callee := Go.Callee.value (Go.Operand.func 52),
                                                args := { toList := [Go.Operand.tmp 47, Go.Operand.tmp 48] },
                                                argTypes := { toList := [65, 27] } },
                                          type := 0 }]).seq
                                  (Go.Am.QC.goto 1))
                                ((Go.Am.QC.plain
                                      [{ dst := Option.some 51, g := Go.Am.QG.no, op := Go.Op.move (Go.Operand.tmp 0),
                                          type := 65 },
                                        { dst := Option.some 52, g := Go.Am.QG.no,
                                          op :=
                                            Go.Op.call
                                              { callee := Go.Callee.value (Go.Operand.func 50),
                                                args :=
                                                  {
                                                    toList :=
                                                      [Go.Operand.tmp 51,
                                                        Go.Operand.const
                                                          (Go.Value.int Go.IntKind.u8 (Int.ofNat 123))] },
                                                argTypes := { toList := [65, 5] } },
                                          type := 4 },
                                        { dst := Option.some 50, g := Go.Am.QG.no,
                                          op := Go.Op.assign (Go.Operand.tmp 52), type := 4 }]).seq
                                  (Go.Am.QC.cond (Go.Operand.tmp 50)
                                    (((Go.Am.QC.plain
                                              [{ dst := Option.some 53, g := Go.Am.QG.no,
                                                  op := Go.Op.move (Go.Operand.tmp 0), type := 65 },
                                                { dst := Option.some 54, g := Go.Am.QG.no,
                                                  op :=
                                                    Go.Op.call
                                                      { callee := Go.Callee.value (Go.Operand.func 53),
                                                        args := { toList := [Go.Operand.tmp 53] },
                                                        argTypes := { toList := [65] } },
                                                  type := 4 },
                                                { dst := Option.some 55, g := Go.Am.QG.no,
                                                  op := Go.Op.unOp Go.UnOp.not 4 (Go.Operand.tmp 54), type := 4 }]).seq
                                          (Go.Am.QC.cond (Go.Operand.tmp 55)
                                            ((Go.Am.QC.plain
                                                  [{ dst := Option.some 2, g := Go.Am.QG.no,
                                                      op :=
                                                        Go.Op.assign
                                                          (Go.Operand.const
                                                            (Go.Value.int Go.IntKind.i64 (Int.ofNat 3))),
                                                      type := 32 }]).seq
                                              Go.Am.QC.ret)
                                            Go.Am.QC.skip)).seq
                                      (Go.Am.QC.goto 1))
                                    ((Go.Am.QC.plain
                                          [{ dst := Option.some 57, g := Go.Am.QG.no,
                                              op := Go.Op.move (Go.Operand.tmp 0), type := 65 },
                                            { dst := Option.some 58, g := Go.Am.QG.no,
                                              op :=
                                                Go.Op.call
                                                  { callee := Go.Callee.value (Go.Operand.func 54),
                                                    args := { toList := [Go.Operand.tmp 57] },
                                                    argTypes := { toList := [65] } },
                                              type := 4 },
                                            { dst := Option.some 59, g := Go.Am.QG.no,
                                              op := Go.Op.move (Go.Operand.tmp 58), type := 4 },
                                            { dst := Option.some 60, g := Go.Am.QG.at 59 Bool.true,
                                              op := Go.Op.move (Go.Operand.tmp 0), type := 65 },
                                            { dst := Option.some 61, g := Go.Am.QG.at 59 Bool.true,
                                              op :=
                                                Go.Op.call
                                                  { callee := Go.Callee.value (Go.Operand.func 50),
                                                    args :=
                                                      {
                                                        toList :=
                                                          [Go.Operand.tmp 60,
                                                            Go.Operand.const
                                                              (Go.Value.int Go.IntKind.u8 (Int.ofNat 41))] },
                                                    argTypes := { toList := [65, 5] } },
                                              type := 4 },
                                            { dst := Option.some 62, g := Go.Am.QG.no,
                                              op :=
                                                Go.Op.pick (Go.Operand.tmp 59) (Go.Operand.tmp 61)
                                                  (Go.Operand.const (Go.Value.bool Bool.false)),
                                              type := 4 },
                                            { dst := Option.some 56, g := Go.Am.QG.no,
                                              op := Go.Op.assign (Go.Operand.tmp 62), type := 4 }]).seq
                                      (Go.Am.QC.cond (Go.Operand.tmp 56)
                                        ((Go.Am.QC.plain
                                              [{ dst := Option.some 63, g := Go.Am.QG.no,
                                                  op := Go.Op.move (Go.Operand.tmp 0), type := 65 },
                                                { dst := Option.some 64, g := Go.Am.QG.no,
                                                  op :=
                                                    Go.Op.call
                                                      { callee := Go.Callee.value (Go.Operand.func 55),
                                                        args := { toList := [Go.Operand.tmp 63] },
                                                        argTypes := { toList := [65] } },
                                                  type := 0 }]).seq
                                          (Go.Am.QC.goto 1))
                                        ((Go.Am.QC.plain
                                              [{ dst := Option.some 66, g := Go.Am.QG.no,
                                                  op := Go.Op.move (Go.Operand.tmp 0), type := 65 },
                                                { dst := Option.some 67, g := Go.Am.QG.no,
                                                  op :=
                                                    Go.Op.call
                                                      { callee := Go.Callee.value (Go.Operand.func 50),
                                                        args :=
                                                          {
                                                            toList :=
                                                              [Go.Operand.tmp 66,
                                                                Go.Operand.const
                                                                  (Go.Value.int Go.IntKind.u8 (Int.ofNat 124))] },
                                                        argTypes := { toList := [65, 5] } },
                                                  type := 4 },
                                                { dst := Option.some 65, g := Go.Am.QG.no,
                                                  op := Go.Op.assign (Go.Operand.tmp 67), type := 4 }]).seq
                                          (Go.Am.QC.cond (Go.Operand.tmp 65)
                                            ((Go.Am.QC.plain
                                                  [{ dst := Option.some 68, g := Go.Am.QG.no,
                                                      op := Go.Op.move (Go.Operand.tmp 0), type := 65 },
                                                    { dst := Option.some 69, g := Go.Am.QG.no,
                                                      op :=
                                                        Go.Op.call
                                                          { callee := Go.Callee.value (Go.Operand.func 37),
                                                            args := { toList := [Go.Operand.tmp 68] },
                                                            argTypes := { toList := [65] } },
                                                      type := 71 },
                                                    { dst := Option.some 70, g := Go.Am.QG.no,
                                                      op :=
                                                        Go.Op.call
                                                          { callee := Go.Callee.value (Go.Operand.func 56),
                                                            args := { toList := [Go.Operand.tmp 69] },
                                                            argTypes := { toList := [71] } },
                                                      type := 0 }]).seq
                                              (Go.Am.QC.goto 0))
                                            ((Go.Am.QC.plain
                                                  [{ dst := Option.some 72, g := Go.Am.QG.no,
                                                      op := Go.Op.move (Go.Operand.tmp 0), type := 65 },
                                                    { dst := Option.some 73, g := Go.Am.QG.no,
                                                      op :=
                                                        Go.Op.call
                                                          { callee := Go.Callee.value (Go.Operand.func 54),
                                                            args := { toList := [Go.Operand.tmp 72] },
                                                            argTypes := { toList := [65] } },
                                                      type := 4 },
                                                    { dst := Option.some 74, g := Go.Am.QG.no,
                                                      op := Go.Op.unOp Go.UnOp.not 4 (Go.Operand.tmp 73), type := 4 },
                                                    { dst := Option.some 75, g := Go.Am.QG.no,
                                                      op := Go.Op.move (Go.Operand.tmp 74), type := 4 },
                                                    { dst := Option.some 76, g := Go.Am.QG.at 75 Bool.true,
                                                      op := Go.Op.move (Go.Operand.tmp 0), type := 65 },
                                                    { dst := Option.some 77, g := Go.Am.QG.at 75 Bool.true,
                                                      op := Go.Op.nilCheck (Go.Operand.tmp 76), type := 0 },
                                                    { dst := Option.some 78, g := Go.Am.QG.at 75 Bool.true,
                                                      op := Go.Op.fieldAddr 70 (Go.Operand.tmp 77) 1, type := 0 },
                                                    { dst := Option.some 79, g := Go.Am.QG.at 75 Bool.true,
                                                      op := Go.Op.load 3 (Go.Operand.tmp 78), type := 3 },
                                                    { dst := Option.some 80, g := Go.Am.QG.at 75 Bool.true,
                                                      op := Go.Op.move (Go.Operand.tmp 0), type := 65 },
                                                    { dst := Option.some 81, g := Go.Am.QG.at 75 Bool.true,
                                                      op := Go.Op.nilCheck (Go.Operand.tmp 80), type := 0 },
                                                    { dst := Option.some 82, g := Go.Am.QG.at 75 Bool.true,
                                                      op := Go.Op.fieldAddr 70 (Go.Operand.tmp 81) 0, type := 0 },
                                                    { dst := Option.some 83, g := Go.Am.QG.at 75 Bool.true,
                                                      op := Go.Op.load 9 (Go.Operand.tmp 82), type := 9 },
                                                    { dst := Option.some 84, g := Go.Am.QG.at 75 Bool.true,
                                                      op :=
                                                        Go.Op.call
                                                          { callee := Go.Callee.builtin Go.Builtin.len,
                                                            args := { toList := [Go.Operand.tmp 83] },
                                                            argTypes := { toList := [9] } },
                                                      type := 3 },
                                                    { dst := Option.some 85, g := Go.Am.QG.at 75 Bool.true,
                                                      op :=
                                                        Go.Op.binOp Go.BinOp.eql 3 (Go.Operand.tmp 79)
                                                          (Go.Operand.tmp 84) 3,
                                                      type := 4 },
                                                    { dst := Option.some 86, g := Go.Am.QG.no,
                                                      op :=
                                                        Go.Op.pick (Go.Operand.tmp 75) (Go.Operand.tmp 85)
                                                          (Go.Operand.const (Go.Value.bool Bool.false)),
                                                      type := 4 },
                                                    { dst := Option.some 71, g := Go.Am.QG.no,
                                                      op := Go.Op.assign (Go.Operand.tmp 86), type := 4 }]).seq
                                              (Go.Am.QC.cond (Go.Operand.tmp 71)
                                                ((Go.Am.QC.plain
                                                      [{ dst := Option.some 2, g := Go.Am.QG.no,
                                                          op :=
                                                            Go.Op.assign
                                                              (Go.Operand.const
                                                                (Go.Value.int Go.IntKind.i64 (Int.ofNat 0))),
                                                          type := 32 }]).seq
                                                  Go.Am.QC.ret)
                                                Go.Am.QC.skip))))))))))))))).seq
                (Go.Am.QC.goto 0)))))).scope)
theorem q36_ok : bodyComp Tryd.prog 36 = some q36 := by kernel_rfl
noncomputable def q37 : QC :=
  ((Go.Am.QC.plain
        [{ dst := Option.some 2, g := Go.Am.QG.no, op := Go.Op.assign (Go.Operand.const (Go.Value.pointer Option.none)),
            type := 71 }]).seq
    ((Go.Am.QC.plain
          [{ dst := Option.some 3, g := Go.Am.QG.no, op := Go.Op.move (Go.Operand.tmp 0), type := 65 },
            { dst := Option.some 4, g := Go.Am.QG.no, op := Go.Op.nilCheck (Go.Operand.tmp 3), type := 0 },
            { dst := Option.some 5, g := Go.Am.QG.no, op := Go.Op.fieldAddr 70 (Go.Operand.tmp 4) 2, type := 0 },
            { dst := Option.some 6, g := Go.Am.QG.no, op := Go.Op.load 68 (Go.Operand.tmp 5), type := 68 },
            { dst := Option.some 7, g := Go.Am.QG.no, op := Go.Op.move (Go.Operand.tmp 0), type := 65 },
            { dst := Option.some 8, g := Go.Am.QG.no, op := Go.Op.nilCheck (Go.Operand.tmp 7), type := 0 },
            { dst := Option.some 9, g := Go.Am.QG.no, op := Go.Op.fieldAddr 70 (Go.Operand.tmp 8) 2, type := 0 },
            { dst := Option.some 10, g := Go.Am.QG.no, op := Go.Op.load 68 (Go.Operand.tmp 9), type := 68 },
            { dst := Option.some 11, g := Go.Am.QG.no,
              op :=
                Go.Op.call
                  { callee := Go.Callee.builtin Go.Builtin.len, args := { toList := [Go.Operand.tmp 10] },
                    argTypes := { toList := [68] } },
              type := 3 },
            { dst := Option.some 12, g := Go.Am.QG.no,
              op :=
                Go.Op.binOp Go.BinOp.sub 3 (Go.Operand.tmp 11)
                  (Go.Operand.const (Go.Value.int Go.IntKind.i64 (Int.ofNat 1))) 3,
              type := 3 },
            { dst := Option.some 13, g := Go.Am.QG.no, op := Go.Op.indexAddr 68 (Go.Operand.tmp 6) (Go.Operand.tmp 12),
              type := 0 },
            { dst := Option.some 2, g := Go.Am.QG.no, op := Go.Op.assign (Go.Operand.tmp 13), type := 71 }]).seq
      Go.Am.QC.ret))
theorem q37_ok : bodyComp Tryd.prog 37 = some q37 := by kernel_rfl
noncomputable def q38 : QC :=
  ((Go.Am.QC.plain [{ dst := Option.some 2, g := Go.Am.QG.no, op := Go.Op.alloc 27, type := 0 }]).seq
    ((Go.Am.QC.plain
          [{ dst := Option.some 3, g := Go.Am.QG.no, op := Go.Op.move (Go.Operand.tmp 0), type := 71 },
            { dst := Option.some 4, g := Go.Am.QG.no,
              op :=
                Go.Op.call
                  { callee := Go.Callee.value (Go.Operand.func 56), args := { toList := [Go.Operand.tmp 3] },
                    argTypes := { toList := [71] } },
              type := 0 }]).seq
      ((Go.Am.QC.plain
            [{ dst := Option.some 5, g := Go.Am.QG.no, op := Go.Op.move (Go.Operand.tmp 0), type := 71 },
              { dst := Option.some 6, g := Go.Am.QG.no, op := Go.Op.nilCheck (Go.Operand.tmp 5), type := 0 },
              { dst := Option.some 7, g := Go.Am.QG.no, op := Go.Op.fieldAddr 87 (Go.Operand.tmp 6) 0, type := 0 },
              { dst := Option.some 8, g := Go.Am.QG.no, op := Go.Op.load 25 (Go.Operand.tmp 7), type := 25 },
              { dst := Option.some 9, g := Go.Am.QG.no,
                op :=
                  Go.Op.call
                    { callee := Go.Callee.value (Go.Operand.func 57),
                      args :=
                        { toList := [Go.Operand.const (Go.Value.int Go.IntKind.i64 (Int.ofNat 5)), Go.Operand.tmp 8] },
                      argTypes := { toList := [3, 25] } },
                type := 27 },
              { dst := Option.none, g := Go.Am.QG.no, op := Go.Op.store 27 (Go.Operand.tmp 2) (Go.Operand.tmp 9),
                type := 0 }]).seq
        Go.Am.QC.ret)))
theorem q38_ok : bodyComp Tryd.prog 38 = some q38 := by kernel_rfl
noncomputable def q42 : QC :=
  ((Go.Am.QC.plain
        [{ dst := Option.some 4, g := Go.Am.QG.no,
            op := Go.Op.assign (Go.Operand.const (Go.Value.int Go.IntKind.i64 (Int.ofNat 0))), type := 3 },
          { dst := Option.some 5, g := Go.Am.QG.no, op := Go.Op.assign (Go.Operand.const Go.Value.nilIface),
            type := 79 }]).seq
    ((Go.Am.QC.plain
          [{ dst := Option.some 6, g := Go.Am.QG.no, op := Go.Op.move (Go.Operand.tmp 0), type := 56 },
            { dst := Option.some 7, g := Go.Am.QG.no,
              op :=
                Go.Op.call
                  { callee := Go.Callee.value (Go.Operand.func 60), args := { toList := [Go.Operand.tmp 6] },
                    argTypes := { toList := [56] } },
              type := 0 }]).seq
      ((Go.Am.QC.plain
            [{ dst := Option.some 8, g := Go.Am.QG.no, op := Go.Op.move (Go.Operand.tmp 0), type := 56 },
              { dst := Option.some 9, g := Go.Am.QG.no, op := Go.Op.move (Go.Operand.tmp 0), type := 56 },
              { dst := Option.some 10, g := Go.Am.QG.no, op := Go.Op.nilCheck (Go.Operand.tmp 9), type := 0 },
              { dst := Option.some 11, g := Go.Am.QG.no, op := Go.Op.fieldAddr 58 (Go.Operand.tmp 10) 1, type := 0 },
              { dst := Option.some 12, g := Go.Am.QG.no, op := Go.Op.load 37 (Go.Operand.tmp 11), type := 37 },
              { dst := Option.some 13, g := Go.Am.QG.no, op := Go.Op.move (Go.Operand.tmp 1), type := 9 },
              { dst := Option.some 14, g := Go.Am.QG.no,
                op :=
                  Go.Op.call
                    { callee := Go.Callee.builtin Go.Builtin.append,
                      args := { toList := [Go.Operand.tmp 12, Go.Operand.tmp 13] }, argTypes := { toList := [37, 9] } },
                type := 37 },
              { dst := Option.some 15, g := Go.Am.QG.no, op := Go.Op.nilCheck (Go.Operand.tmp 8), type := 0 },
              { dst := Option.some 16, g := Go.Am.QG.no, op := Go.Op.fieldAddr 58 (Go.Operand.tmp 15) 1, type := 0 },
              { dst := Option.none, g := Go.Am.QG.no, op := Go.Op.store 37 (Go.Operand.tmp 16) (Go.Operand.tmp 14),
                type := 0 }]).seq
        ((Go.Am.QC.plain
              [{ dst := Option.some 17, g := Go.Am.QG.no, op := Go.Op.move (Go.Operand.tmp 1), type := 9 },
                { dst := Option.some 18, g := Go.Am.QG.no,
                  op :=
                    Go.Op.call
                      { callee := Go.Callee.builtin Go.Builtin.len, args := { toList := [Go.Operand.tmp 17] },
                        argTypes := { toList := [9] } },
                  type := 3 },
                { dst := Option.some 4, g := Go.Am.QG.no, op := Go.Op.assign (Go.Operand.tmp 18), type := 3 },
                { dst := Option.some 5, g := Go.Am.QG.no, op := Go.Op.assign (Go.Operand.const Go.Value.nilIface),
                  type := 79 }]).seq
          Go.Am.QC.ret))))
theorem q42_ok : bodyComp Tryd.prog 42 = some q42 := by kernel_rfl
noncomputable def q43 : QC :=
  ((Go.Am.QC.plain
        [{ dst := Option.some 2, g := Go.Am.QG.no,
            op := Go.Op.assign (Go.Operand.const (Go.Value.string { data := { toList := [] } })), type := 9 }]).seq
    (((Go.Am.QC.plain
              [{ dst := Option.some 5, g := Go.Am.QG.no, op := Go.Op.move (Go.Operand.tmp 0), type := 3 },
                { dst := Option.some 6, g := Go.Am.QG.no,
                  op :=
                    Go.Op.binOp Go.BinOp.eql 3 (Go.Operand.tmp 5)
                      (Go.Operand.const (Go.Value.int Go.IntKind.i64 (Int.ofNat 31))) 3,
                  type := 4 }]).seq
          (Go.Am.QC.cond (Go.Operand.tmp 6)
            ((Go.Am.QC.plain
                  [{ dst := Option.some 2, g := Go.Am.QG.no,
                      op :=
                        Go.Op.assign
                          (Go.Operand.const
                            (Go.Value.string
                              {
                                data :=
                                  {
                                    toList :=
                                      [{
                                          toBitVec :=
                                            { toFin := ⟨46, Nat.mod_lt 46 (BitVec.ofNat._proof_1 8)⟩ } }] } })),
                      type := 9 }]).seq
              Go.Am.QC.ret)
            Go.Am.QC.skip)).seq
      ((Go.Am.QC.plain
            [{ dst := Option.some 3, g := Go.Am.QG.no,
                op := Go.Op.assign (Go.Operand.const (Go.Value.slice Option.none 0 0)), type := 37 }]).seq
        (((Go.Am.QC.plain
                  [{ dst := Option.some 7, g := Go.Am.QG.no,
                      op := Go.Op.move (Go.Operand.const (Go.Value.int Go.IntKind.i64 (Int.ofNat 0))), type := 3 }]).seq
              (Go.Am.QC.block 0
                ((Go.Am.QC.plain
                        [{ dst := Option.some 8, g := Go.Am.QG.no,
                            op :=
                              Go.Op.binOp Go.BinOp.lss 3 (Go.Operand.tmp 7)
                                (Go.Operand.const (Go.Value.int Go.IntKind.i64 (Int.ofNat 5))) 3,
                            type := 4 }]).seq
                    ((Go.Am.QC.cond (Go.Operand.tmp 8) Go.Am.QC.skip (Go.Am.QC.exit 0)).seq
                      ((Go.Am.QC.block 1
                            ((Go.Am.QC.plain
                                  [{ dst := Option.some 9, g := Go.Am.QG.no, op := Go.Op.move (Go.Operand.tmp 7),
                                      type := 3 },
                                    { dst := Option.some 4, g := Go.Am.QG.no, op := Go.Op.assign (Go.Operand.tmp 9),
                                      type := 3 }]).seq
                              ((Go.Am.QC.plain
                                    [{ dst := Option.some 10, g := Go.Am.QG.no, op := Go.Op.move (Go.Operand.tmp 0),
                                        type := 3 },
                                      { dst := Option.some 11, g := Go.Am.QG.no, op := Go.Op.move (Go.Operand.tmp 4),
                                        type := 3 },
                                      { dst := Option.some 12, g := Go.Am.QG.no,
                                        op := Go.Op.binOp Go.BinOp.shr 3 (Go.Operand.tmp 10) (Go.Operand.tmp 11) 3,
                                        type := 3 },
                                      { dst := Option.some 13, g := Go.Am.QG.no,
                                        op :=
                                          Go.Op.binOp Go.BinOp.and 3 (Go.Operand.tmp 12)
                                            (Go.Operand.const (Go.Value.int Go.IntKind.i64 (Int.ofNat 1))) 3,
                                        type := 3 },
                                      { dst := Option.some 14, g := Go.Am.QG.no,
                                        op :=
                                          Go.Op.binOp Go.BinOp.eql 3 (Go.Operand.tmp 13)
                                            (Go.Operand.const (Go.Value.int Go.IntKind.i64 (Int.ofNat 1))) 3,
                                        type := 4 }]).seq
                                (Go.Am.QC.cond (Go.Operand.tmp 14)
                                  (Go.Am.QC.plain
                                    [{ dst := Option.some 15, g := Go.Am.QG.no, op := Go.Op.move (Go.Operand.tmp 3),
                                        type := 37 },
                                      { dst := Option.some 16, g := Go.Am.QG.no, op := Go.Op.move (Go.Operand.tmp 4),
                                        type := 3 },
                                      { dst := Option.some 17, g := Go.Am.QG.no,
                                        op :=
                                          Go.Op.index 9
                                            (Go.Operand.const
                                              (Go.Value.string
                                                {
                                                  data :=
                                                    {
                                                      toList :=
                                                        [{
                                                            toBitVec :=
                                                              {
                                                                toFin :=
                                                                  ⟨119, Nat.mod_lt 119 (BitVec.ofNat._proof_1 8)⟩ } },
                                                          {
                                                            toBitVec :=
                                                              {
                                                                toFin :=
                                                                  ⟨98, Nat.mod_lt 98 (BitVec.ofNat._proof_1 8)⟩ } },
                                                          {
                                                            toBitVec :=
                                                              {
                                                                toFin :=
                                                                  ⟨99, Nat.mod_lt 99 (BitVec.ofNat._proof_1 8)⟩ } },
                                                          {
                                                            toBitVec :=
                                                              {
                                                                toFin :=
                                                                  ⟨102, Nat.mod_lt 102 (BitVec.ofNat._proof_1 8)⟩ } },
                                                          {
                                                            toBitVec :=
                                                              {
                                                                toFin :=
                                                                  ⟨116,
                                                                    Nat.mod_lt 116 (BitVec.ofNat._proof_1 8)⟩ } }] } }))
                                            (Go.Operand.tmp 16),
                                        type := 5 },
                                      { dst := Option.some 18, g := Go.Am.QG.no,
                                        op := Go.Op.buildSlice 37 1 { toList := [(0, Go.Operand.tmp 17)] },
                                        type := 37 },
                                      { dst := Option.some 19, g := Go.Am.QG.no,
                                        op :=
                                          Go.Op.call
                                            { callee := Go.Callee.builtin Go.Builtin.append,
                                              args := { toList := [Go.Operand.tmp 15, Go.Operand.tmp 18] },
                                              argTypes := { toList := [37, 37] } },
                                        type := 37 },
                                      { dst := Option.some 3, g := Go.Am.QG.no, op := Go.Op.assign (Go.Operand.tmp 19),
                                        type := 37 }])
                                  Go.Am.QC.skip)))).seq
                        (Go.Am.QC.plain
                          [{ dst := Option.some 20, g := Go.Am.QG.no,
                              op :=
                                Go.Op.binOp Go.BinOp.add 3 (Go.Operand.tmp 7)
                                  (Go.Operand.const (Go.Value.int Go.IntKind.i64 (Int.ofNat 1))) 3,
                              type := 3 },
                            { dst := Option.some 7, g := Go.Am.QG.no, op := Go.Op.move (Go.Operand.tmp 20),
                              type := 3 }])))).loop)).seq
          (((Go.Am.QC.plain
                    [{ dst := Option.some 21, g := Go.Am.QG.no, op := Go.Op.move (Go.Operand.tmp 3), type := 37 },
                      { dst := Option.some 22, g := Go.Am.QG.no,
                        op :=
                          Go.Op.call
                            { callee := Go.Callee.builtin Go.Builtin.len, args := { toList := [Go.Operand.tmp 21] },
                              argTypes := { toList := [37] } },
                        type := 3 },
                      { dst := Option.some 23, g := Go.Am.QG.no,
                        op :=
                          Go.Op.binOp Go.BinOp.eql 3 (Go.Operand.tmp 22)
                            (Go.Operand.const (Go.Value.int Go.IntKind.i64 (Int.ofNat 1))) 3,
                        type := 4 }]).seq
                (Go.Am.QC.cond (Go.Operand.tmp 23)
                  ((Go.Am.QC.plain
                        [{ dst := Option.some 24, g := Go.Am.QG.no, op := Go.Op.move (Go.Operand.tmp 3), type := 37 },
                          { dst := Option.some 25, g := Go.Am.QG.no, op := Go.Op.convert 37 9 (Go.Operand.tmp 24),
                            type := 9 },
                          { dst := Option.some 2, g := Go.Am.QG.no, op := Go.Op.assign (Go.Operand.tmp 25),
                            type := 9 }]).seq
                    Go.Am.QC.ret)
                  Go.Am.QC.skip)).seq
            ((Go.Am.QC.plain
                  [{ dst := Option.some 26, g := Go.Am.QG.no, op := Go.Op.move (Go.Operand.tmp 3), type := 37 },
                    { dst := Option.some 27, g := Go.Am.QG.no, op := Go.Op.convert 37 9 (Go.Operand.tmp 26),
                      type := 9 },
                    { dst := Option.some 28, g := Go.Am.QG.no,
                      op :=
                        Go.Op.binOp Go.BinOp.add 9
                          (Go.Operand.const
                            (Go.Value.string
                              {
                                data :=
                                  {
                                    toList :=
                                      [{ toBitVec := { toFin := ⟨91, Nat.mod_lt 91 (BitVec.ofNat._proof_1 8)⟩ } }] } }))
                          (Go.Operand.tmp 27) 9,
                      type := 9 },
                    { dst := Option.some 29, g := Go.Am.QG.no,
                      op :=
                        Go.Op.binOp Go.BinOp.add 9 (Go.Operand.tmp 28)
                          (Go.Operand.const
                            (Go.Value.string
                              {
                                data :=
                                  {
                                    toList :=
                                      [{ toBitVec := { toFin := ⟨93, Nat.mod_lt 93 (BitVec.ofNat._proof_1 8)⟩ } }] } }))
                          9,
                      type := 9 },
                    { dst := Option.some 2, g := Go.Am.QG.no, op := Go.Op.assign (Go.Operand.tmp 29), type := 9 }]).seq
              Go.Am.QC.ret))))))
theorem q43_ok : bodyComp Tryd.prog 43 = some q43 := by kernel_rfl
noncomputable def q44 : QC :=
  ((Go.Am.QC.plain
        [{ dst := Option.some 10, g := Go.Am.QG.no, op := Go.Op.move (Go.Operand.tmp 1), type := 25 },
          { dst := Option.some 11, g := Go.Am.QG.no,
            op :=
              Go.Op.call
                { callee := Go.Callee.builtin Go.Builtin.len, args := { toList := [Go.Operand.tmp 10] },
                  argTypes := { toList := [25] } },
            type := 3 },
          { dst := Option.some 12, g := Go.Am.QG.no,
            op := Go.Op.move (Go.Operand.const (Go.Value.int Go.IntKind.i64 (Int.ofNat 0))), type := 3 }]).seq
    (Go.Am.QC.block 0
      ((Go.Am.QC.plain
              [{ dst := Option.some 13, g := Go.Am.QG.no,
                  op := Go.Op.binOp Go.BinOp.lss 3 (Go.Operand.tmp 12) (Go.Operand.tmp 11) 3, type := 0 }]).seq
          ((Go.Am.QC.cond (Go.Operand.tmp 13) Go.Am.QC.skip (Go.Am.QC.exit 0)).seq
            ((Go.Am.QC.block 1
                  ((Go.Am.QC.plain
                        [{ dst := Option.some 14, g := Go.Am.QG.no, op := Go.Op.move (Go.Operand.tmp 12), type := 3 },
                          { dst := Option.some 15, g := Go.Am.QG.no,
                            op := Go.Op.indexAddr 25 (Go.Operand.tmp 10) (Go.Operand.tmp 12), type := 0 },
                          { dst := Option.some 16, g := Go.Am.QG.no, op := Go.Op.load 27 (Go.Operand.tmp 15),
                            type := 27 },
                          { dst := Option.some 9, g := Go.Am.QG.no, op := Go.Op.alloc 27, type := 0 },
                          { dst := Option.some 8, g := Go.Am.QG.no, op := Go.Op.assign (Go.Operand.tmp 14), type := 3 },
                          { dst := Option.none, g := Go.Am.QG.no,
                            op := Go.Op.store 27 (Go.Operand.tmp 9) (Go.Operand.tmp 16), type := 0 }]).seq
                    (((Go.Am.QC.plain
                              [{ dst := Option.some 17, g := Go.Am.QG.no, op := Go.Op.move (Go.Operand.tmp 8),
                                  type := 3 },
                                { dst := Option.some 18, g := Go.Am.QG.no,
                                  op :=
                                    Go.Op.binOp Go.BinOp.gtr 3 (Go.Operand.tmp 17)
                                      (Go.Operand.const (Go.Value.int Go.IntKind.i64 (Int.ofNat 0))) 3,
                                  type := 4 }]).seq
                          (Go.Am.QC.cond (Go.Operand.tmp 18)
                            (Go.Am.QC.plain
                              [{ dst := Option.some 19, g := Go.Am.QG.no, op := Go.Op.move (Go.Operand.tmp 0),
                                  type := 77 },
                                { dst := Option.some 20, g := Go.Am.QG.no, op := Go.Op.nilCheck (Go.Operand.tmp 19),
                                  type := 0 },
                                { dst := Option.some 21, g := Go.Am.QG.no,
                                  op := Go.Op.fieldAddr 60 (Go.Operand.tmp 20) 0, type := 0 },
                                { dst := Option.some 22, g := Go.Am.QG.no, op := Go.Op.move (Go.Operand.tmp 3),
                                  type := 9 },
                                { dst := Option.some 23, g := Go.Am.QG.no,
                                  op :=
                                    Go.Op.call
                                      { callee := Go.Callee.value (Go.Operand.func 42),
                                        args := { toList := [Go.Operand.tmp 21, Go.Operand.tmp 22] },
                                        argTypes := { toList := [58, 9] } },
                                  type := 80 }])
                            Go.Am.QC.skip)).seq
                      (Go.Am.QC.plain
                        [{ dst := Option.some 24, g := Go.Am.QG.no, op := Go.Op.move (Go.Operand.tmp 2), type := 61 },
                          { dst := Option.some 25, g := Go.Am.QG.no, op := Go.Op.load 27 (Go.Operand.tmp 9),
                            type := 27 },
                          { dst := Option.some 26, g := Go.Am.QG.no,
                            op :=
                              Go.Op.call
                                { callee := Go.Callee.value (Go.Operand.tmp 24),
                                  args := { toList := [Go.Operand.tmp 25] }, argTypes := { toList := [27] } },
                            type := 0 }])))).seq
              (Go.Am.QC.plain
                [{ dst := Option.some 27, g := Go.Am.QG.no,
                    op :=
                      Go.Op.binOp Go.BinOp.add 3 (Go.Operand.tmp 12)
                        (Go.Operand.const (Go.Value.int Go.IntKind.i64 (Int.ofNat 1))) 3,
                    type := 3 },
                  { dst := Option.some 12, g := Go.Am.QG.no, op := Go.Op.move (Go.Operand.tmp 27),
                    type := 3 }])))).loop))
theorem q44_ok : bodyComp Tryd.prog 44 = some q44 := by kernel_rfl
noncomputable def q45 : QC :=
  ((Go.Am.QC.plain [{ dst := Option.some 3, g := Go.Am.QG.no, op := Go.Op.box 27 (Go.Operand.tmp 1), type := 0 }]).seq
    (((Go.Am.QC.plain
              [{ dst := Option.some 4, g := Go.Am.QG.no, op := Go.Op.fieldAddr 27 (Go.Operand.tmp 3) 0, type := 0 },
                { dst := Option.some 5, g := Go.Am.QG.no, op := Go.Op.load 3 (Go.Operand.tmp 4), type := 3 },
                { dst := Option.some 6, g := Go.Am.QG.no,
                  op :=
                    Go.Op.binOp Go.BinOp.eql 3 (Go.Operand.tmp 5)
                      (Go.Operand.const (Go.Value.int Go.IntKind.i64 (Int.ofNat 5))) 3,
                  type := 4 }]).seq
          (Go.Am.QC.cond (Go.Operand.tmp 6)
            ((Go.Am.QC.plain
                  [{ dst := Option.some 7, g := Go.Am.QG.no, op := Go.Op.move (Go.Operand.tmp 0), type := 77 },
                    { dst := Option.some 8, g := Go.Am.QG.no, op := Go.Op.load 27 (Go.Operand.tmp 3), type := 27 },
                    { dst := Option.some 9, g := Go.Am.QG.no,
                      op :=
                        Go.Op.call
                          { callee := Go.Callee.value (Go.Operand.func 61),
                            args := { toList := [Go.Operand.tmp 7, Go.Operand.tmp 8] },
                            argTypes := { toList := [77, 27] } },
                      type := 0 }]).seq
              Go.Am.QC.ret)
            Go.Am.QC.skip)).seq
      (Go.Am.QC.plain
        [{ dst := Option.some 10, g := Go.Am.QG.no, op := Go.Op.move (Go.Operand.tmp 0), type := 77 },
          { dst := Option.some 11, g := Go.Am.QG.no, op := Go.Op.load 27 (Go.Operand.tmp 3), type := 27 },
          { dst := Option.some 12, g := Go.Am.QG.no,
            op :=
              Go.Op.call
                { callee := Go.Callee.value (Go.Operand.func 30),
                  args := { toList := [Go.Operand.tmp 10, Go.Operand.tmp 11] }, argTypes := { toList := [77, 27] } },
            type := 0 }])))
theorem q45_ok : bodyComp Tryd.prog 45 = some q45 := by kernel_rfl
noncomputable def q46 : QC :=
  ((Go.Am.QC.plain [{ dst := Option.some 3, g := Go.Am.QG.no, op := Go.Op.box 27 (Go.Operand.tmp 1), type := 0 }]).seq
    (((Go.Am.QC.plain
              [{ dst := Option.some 4, g := Go.Am.QG.no, op := Go.Op.fieldAddr 27 (Go.Operand.tmp 3) 0, type := 0 },
                { dst := Option.some 5, g := Go.Am.QG.no, op := Go.Op.load 3 (Go.Operand.tmp 4), type := 3 },
                { dst := Option.some 6, g := Go.Am.QG.no,
                  op :=
                    Go.Op.binOp Go.BinOp.eql 3 (Go.Operand.tmp 5)
                      (Go.Operand.const (Go.Value.int Go.IntKind.i64 (Int.ofNat 4))) 3,
                  type := 4 }]).seq
          (Go.Am.QC.cond (Go.Operand.tmp 6)
            ((Go.Am.QC.plain
                  [{ dst := Option.some 7, g := Go.Am.QG.no, op := Go.Op.move (Go.Operand.tmp 0), type := 77 },
                    { dst := Option.some 8, g := Go.Am.QG.no, op := Go.Op.load 27 (Go.Operand.tmp 3), type := 27 },
                    { dst := Option.some 9, g := Go.Am.QG.no,
                      op :=
                        Go.Op.call
                          { callee := Go.Callee.value (Go.Operand.func 61),
                            args := { toList := [Go.Operand.tmp 7, Go.Operand.tmp 8] },
                            argTypes := { toList := [77, 27] } },
                      type := 0 }]).seq
              Go.Am.QC.ret)
            Go.Am.QC.skip)).seq
      (Go.Am.QC.plain
        [{ dst := Option.some 10, g := Go.Am.QG.no, op := Go.Op.move (Go.Operand.tmp 0), type := 77 },
          { dst := Option.some 11, g := Go.Am.QG.no, op := Go.Op.load 27 (Go.Operand.tmp 3), type := 27 },
          { dst := Option.some 12, g := Go.Am.QG.no,
            op :=
              Go.Op.call
                { callee := Go.Callee.value (Go.Operand.func 45),
                  args := { toList := [Go.Operand.tmp 10, Go.Operand.tmp 11] }, argTypes := { toList := [77, 27] } },
            type := 0 }])))
theorem q46_ok : bodyComp Tryd.prog 46 = some q46 := by kernel_rfl
noncomputable def q47 : QC :=
  ((Go.Am.QC.plain
        [{ dst := Option.some 1, g := Go.Am.QG.no, op := Go.Op.box 27 (Go.Operand.tmp 0), type := 0 },
          { dst := Option.some 2, g := Go.Am.QG.no,
            op := Go.Op.assign (Go.Operand.const (Go.Value.string { data := { toList := [] } })), type := 9 }]).seq
    (((Go.Am.QC.plain
              [{ dst := Option.some 3, g := Go.Am.QG.no, op := Go.Op.fieldAddr 27 (Go.Operand.tmp 1) 0, type := 0 },
                { dst := Option.some 4, g := Go.Am.QG.no, op := Go.Op.load 3 (Go.Operand.tmp 3), type := 3 }]).seq
          (Go.Am.QC.block 0
            ((Go.Am.QC.plain
                  [{ dst := Option.some 6, g := Go.Am.QG.no,
                      op :=
                        Go.Op.binOp Go.BinOp.eql 3 (Go.Operand.tmp 4)
                          (Go.Operand.const (Go.Value.int Go.IntKind.i64 (Int.ofNat 6))) 3,
                      type := 4 },
                    { dst := Option.some 5, g := Go.Am.QG.no, op := Go.Op.assign (Go.Operand.tmp 6), type := 4 }]).seq
              (Go.Am.QC.cond (Go.Operand.tmp 5)
                ((Go.Am.QC.plain
                      [{ dst := Option.some 2, g := Go.Am.QG.no,
                          op :=
                            Go.Op.assign
                              (Go.Operand.const
                                (Go.Value.string
                                  {
                                    data :=
                                      {
                                        toList :=
                                          [{
                                              toBitVec :=
                                                { toFin := ⟨42, Nat.mod_lt 42 (BitVec.ofNat._proof_1 8)⟩ } }] } })),
                          type := 9 }]).seq
                  Go.Am.QC.ret)
                ((Go.Am.QC.plain
                      [{ dst := Option.some 8, g := Go.Am.QG.no,
                          op :=
                            Go.Op.binOp Go.BinOp.eql 3 (Go.Operand.tmp 4)
                              (Go.Operand.const (Go.Value.int Go.IntKind.i64 (Int.ofNat 7))) 3,
                          type := 4 },
                        { dst := Option.some 7, g := Go.Am.QG.no, op := Go.Op.assign (Go.Operand.tmp 8),
                          type := 4 }]).seq
                  (Go.Am.QC.cond (Go.Operand.tmp 7)
                    ((Go.Am.QC.plain
                          [{ dst := Option.some 2, g := Go.Am.QG.no,
                              op :=
                                Go.Op.assign
                                  (Go.Operand.const
                                    (Go.Value.string
                                      {
                                        data :=
                                          {
                                            toList :=
                                              [{
                                                  toBitVec :=
                                                    { toFin := ⟨43, Nat.mod_lt 43 (BitVec.ofNat._proof_1 8)⟩ } }] } })),
                              type := 9 }]).seq
                      Go.Am.QC.ret)
                    ((Go.Am.QC.plain
                          [{ dst := Option.some 10, g := Go.Am.QG.no,
                              op :=
                                Go.Op.binOp Go.BinOp.eql 3 (Go.Operand.tmp 4)
                                  (Go.Operand.const (Go.Value.int Go.IntKind.i64 (Int.ofNat 8))) 3,
                              type := 4 },
                            { dst := Option.some 9, g := Go.Am.QG.no, op := Go.Op.assign (Go.Operand.tmp 10),
                              type := 4 }]).seq
                      (Go.Am.QC.cond (Go.Operand.tmp 9)
                        ((Go.Am.QC.plain
                              [{ dst := Option.some 2, g := Go.Am.QG.no,
                                  op :=
                                    Go.Op.assign
                                      (Go.Operand.const
                                        (Go.Value.string
                                          {
                                            data :=
                                              {
                                                toList :=
                                                  [{
                                                      toBitVec :=
                                                        {
                                                          toFin :=
                                                            ⟨63, Nat.mod_lt 63 (BitVec.ofNat._proof_1 8)⟩ } }] } })),
                                  type := 9 }]).seq
                          Go.Am.QC.ret)
                        Go.Am.QC.skip)))))))).seq
      ((Go.Am.QC.drawn
            {
              toList :=
                [{ dst := Option.some 11, op := Go.Op.fieldAddr 27 (Go.Operand.tmp 1) 2, type := 0,
                    pos := "writer.go:77", after := { toList := [] }, guard := Option.none },
                  { dst := Option.some 12, op := Go.Op.load 3 (Go.Operand.tmp 11), type := 3, pos := "writer.go:77",
                    after := { toList := [{ on := 0, ground := Go.Ground.data }] }, guard := Option.none },
                  { dst := Option.some 13,
                    op :=
                      Go.Op.call
                        { callee := Go.Callee.value (Go.Operand.func 62), args := { toList := [Go.Operand.tmp 12] },
                          argTypes := { toList := [3] } },
                    type := 9, pos := "writer.go:77", after := { toList := [{ on := 1, ground := Go.Ground.data }] },
                    guard := Option.none },
                  { dst := Option.some 14,
                    op :=
                      Go.Op.binOp Go.BinOp.add 9
                        (Go.Operand.const
                          (Go.Value.string
                            {
                              data :=
                                {
                                  toList :=
                                    [{ toBitVec := { toFin := ⟨123, Nat.mod_lt 123 (BitVec.ofNat._proof_1 8)⟩ } }] } }))
                        (Go.Operand.tmp 13) 9,
                    type := 9, pos := "writer.go:77", after := { toList := [{ on := 2, ground := Go.Ground.data }] },
                    guard := Option.none },
                  { dst := Option.some 15,
                    op :=
                      Go.Op.binOp Go.BinOp.add 9 (Go.Operand.tmp 14)
                        (Go.Operand.const
                          (Go.Value.string
                            {
                              data :=
                                {
                                  toList :=
                                    [{ toBitVec := { toFin := ⟨44, Nat.mod_lt 44 (BitVec.ofNat._proof_1 8)⟩ } }] } }))
                        9,
                    type := 9, pos := "writer.go:77", after := { toList := [{ on := 3, ground := Go.Ground.data }] },
                    guard := Option.none },
                  { dst := Option.some 16, op := Go.Op.fieldAddr 27 (Go.Operand.tmp 1) 3, type := 0,
                    pos := "writer.go:77", after := { toList := [] }, guard := Option.none },
                  { dst := Option.some 17, op := Go.Op.load 3 (Go.Operand.tmp 16), type := 3, pos := "writer.go:77",
                    after := { toList := [{ on := 5, ground := Go.Ground.data }] }, guard := Option.none },
                  { dst := Option.some 18,
                    op :=
                      Go.Op.call
                        { callee := Go.Callee.value (Go.Operand.func 62), args := { toList := [Go.Operand.tmp 17] },
                          argTypes := { toList := [3] } },
                    type := 9, pos := "writer.go:77",
                    after :=
                      { toList := [{ on := 6, ground := Go.Ground.data }, { on := 2, ground := Go.Ground.chain }] },
                    guard := Option.none },
                  { dst := Option.some 19, op := Go.Op.binOp Go.BinOp.add 9 (Go.Operand.tmp 15) (Go.Operand.tmp 18) 9,
                    type := 9, pos := "writer.go:77",
                    after :=
                      { toList := [{ on := 4, ground := Go.Ground.data }, { on := 7, ground := Go.Ground.data }] },
                    guard := Option.none },
                  { dst := Option.some 20,
                    op :=
                      Go.Op.binOp Go.BinOp.add 9 (Go.Operand.tmp 19)
                        (Go.Operand.const
                          (Go.Value.string
                            {
                              data :=
                                {
                                  toList :=
                                    [{ toBitVec := { toFin := ⟨125, Nat.mod_lt 125 (BitVec.ofNat._proof_1 8)⟩ } }] } }))
                        9,
                    type := 9, pos := "writer.go:77", after := { toList := [{ on := 8, ground := Go.Ground.data }] },
                    guard := Option.none },
                  { dst := Option.some 2, op := Go.Op.assign (Go.Operand.tmp 20), type := 9, pos := "writer.go:77",
                    after :=
                      {
                        toList :=
                          [{ on := 9, ground := Go.Ground.data }, { on := 7, ground := Go.Ground.chain },
                            { on := 0, ground := Go.Ground.phase }, { on := 1, ground := Go.Ground.phase },
                            { on := 2, ground := Go.Ground.phase }, { on := 3, ground := Go.Ground.phase },
                            { on := 4, ground := Go.Ground.phase }, { on := 5, ground := Go.Ground.phase },
                            { on := 6, ground := Go.Ground.phase }, { on := 7, ground := Go.Ground.phase },
                            { on := 8, ground := Go.Ground.phase }, { on := 9, ground := Go.Ground.phase }] },
                    guard := Option.none }] }).seq
        Go.Am.QC.ret)))
theorem q47_ok : bodyComp Tryd.prog 47 = some q47 := by kernel_rfl
noncomputable def q48 : QC :=
  ((Go.Am.QC.plain
        [{ dst := Option.some 1, g := Go.Am.QG.no, op := Go.Op.box 27 (Go.Operand.tmp 0), type := 0 },
          { dst := Option.some 2, g := Go.Am.QG.no, op := Go.Op.assign (Go.Operand.const (Go.Value.bool Bool.false)),
            type := 4 }]).seq
    ((Go.Am.QC.plain
          [{ dst := Option.some 3, g := Go.Am.QG.no, op := Go.Op.fieldAddr 27 (Go.Operand.tmp 1) 1, type := 0 },
            { dst := Option.some 4, g := Go.Am.QG.no, op := Go.Op.load 3 (Go.Operand.tmp 3), type := 3 },
            { dst := Option.some 5, g := Go.Am.QG.no,
              op :=
                Go.Op.binOp Go.BinOp.eql 3 (Go.Operand.tmp 4)
                  (Go.Operand.const (Go.Value.int Go.IntKind.i64 (Int.ofNat 0))) 3,
              type := 4 },
            { dst := Option.some 6, g := Go.Am.QG.no, op := Go.Op.move (Go.Operand.tmp 5), type := 4 },
            { dst := Option.some 7, g := Go.Am.QG.at 6 Bool.true, op := Go.Op.fieldAddr 27 (Go.Operand.tmp 1) 2,
              type := 0 },
            { dst := Option.some 8, g := Go.Am.QG.at 6 Bool.true, op := Go.Op.load 3 (Go.Operand.tmp 7), type := 3 },
            { dst := Option.some 9, g := Go.Am.QG.at 6 Bool.true,
              op :=
                Go.Op.binOp Go.BinOp.eql 3 (Go.Operand.tmp 8)
                  (Go.Operand.const (Go.Value.int Go.IntKind.i64 (Int.ofNat 0))) 3,
              type := 4 },
            { dst := Option.some 10, g := Go.Am.QG.no,
              op := Go.Op.pick (Go.Operand.tmp 6) (Go.Operand.tmp 9) (Go.Operand.const (Go.Value.bool Bool.false)),
              type := 4 },
            { dst := Option.some 11, g := Go.Am.QG.no, op := Go.Op.move (Go.Operand.tmp 10), type := 4 },
            { dst := Option.some 12, g := Go.Am.QG.at 11 Bool.true, op := Go.Op.fieldAddr 27 (Go.Operand.tmp 1) 3,
              type := 0 },
            { dst := Option.some 13, g := Go.Am.QG.at 11 Bool.true, op := Go.Op.load 3 (Go.Operand.tmp 12), type := 3 },
            { dst := Option.some 14, g := Go.Am.QG.at 11 Bool.true,
              op :=
                Go.Op.binOp Go.BinOp.eql 3 (Go.Operand.tmp 13)
                  (Go.Operand.const (Go.Value.int Go.IntKind.i64 (Int.ofNat 0))) 3,
              type := 4 },
            { dst := Option.some 15, g := Go.Am.QG.no,
              op := Go.Op.pick (Go.Operand.tmp 11) (Go.Operand.tmp 14) (Go.Operand.const (Go.Value.bool Bool.false)),
              type := 4 },
            { dst := Option.some 2, g := Go.Am.QG.no, op := Go.Op.assign (Go.Operand.tmp 15), type := 4 }]).seq
      Go.Am.QC.ret))
theorem q48_ok : bodyComp Tryd.prog 48 = some q48 := by kernel_rfl
noncomputable def q49 : QC :=
  ((Go.Am.QC.plain
        [{ dst := Option.some 4, g := Go.Am.QG.no, op := Go.Op.assign (Go.Operand.const (Go.Value.bool Bool.false)),
            type := 4 }]).seq
    ((Go.Am.QC.plain
          [{ dst := Option.some 5, g := Go.Am.QG.no, op := Go.Op.move (Go.Operand.tmp 0), type := 3 },
            { dst := Option.some 6, g := Go.Am.QG.no,
              op :=
                Go.Op.binOp Go.BinOp.leq 3 (Go.Operand.const (Go.Value.int Go.IntKind.i64 (Int.ofNat 0)))
                  (Go.Operand.tmp 5) 3,
              type := 4 },
            { dst := Option.some 7, g := Go.Am.QG.no, op := Go.Op.move (Go.Operand.tmp 6), type := 4 },
            { dst := Option.some 8, g := Go.Am.QG.at 7 Bool.true, op := Go.Op.move (Go.Operand.tmp 0), type := 3 },
            { dst := Option.some 9, g := Go.Am.QG.at 7 Bool.true, op := Go.Op.move (Go.Operand.tmp 1), type := 3 },
            { dst := Option.some 10, g := Go.Am.QG.at 7 Bool.true,
              op := Go.Op.binOp Go.BinOp.leq 3 (Go.Operand.tmp 8) (Go.Operand.tmp 9) 3, type := 4 },
            { dst := Option.some 11, g := Go.Am.QG.no,
              op := Go.Op.pick (Go.Operand.tmp 7) (Go.Operand.tmp 10) (Go.Operand.const (Go.Value.bool Bool.false)),
              type := 4 },
            { dst := Option.some 12, g := Go.Am.QG.no, op := Go.Op.move (Go.Operand.tmp 11), type := 4 },
            { dst := Option.some 13, g := Go.Am.QG.at 12 Bool.true, op := Go.Op.move (Go.Operand.tmp 1), type := 3 },
            { dst := Option.some 14, g := Go.Am.QG.at 12 Bool.true,
              op :=
                Go.Op.binOp Go.BinOp.leq 3 (Go.Operand.tmp 13)
                  (Go.Operand.const (Go.Value.int Go.IntKind.i64 (Int.ofNat 9))) 3,
              type := 4 },
            { dst := Option.some 15, g := Go.Am.QG.no,
              op := Go.Op.pick (Go.Operand.tmp 12) (Go.Operand.tmp 14) (Go.Operand.const (Go.Value.bool Bool.false)),
              type := 4 },
            { dst := Option.some 4, g := Go.Am.QG.no, op := Go.Op.assign (Go.Operand.tmp 15), type := 4 }]).seq
      Go.Am.QC.ret))
theorem q49_ok : bodyComp Tryd.prog 49 = some q49 := by kernel_rfl
noncomputable def q50 : QC :=
  ((Go.Am.QC.plain
        [{ dst := Option.some 4, g := Go.Am.QG.no, op := Go.Op.assign (Go.Operand.const (Go.Value.bool Bool.false)),
            type := 4 }]).seq
    (((Go.Am.QC.plain
              [{ dst := Option.some 5, g := Go.Am.QG.no, op := Go.Op.move (Go.Operand.tmp 0), type := 65 },
                { dst := Option.some 6, g := Go.Am.QG.no, op := Go.Op.nilCheck (Go.Operand.tmp 5), type := 0 },
                { dst := Option.some 7, g := Go.Am.QG.no, op := Go.Op.fieldAddr 70 (Go.Operand.tmp 6) 1, type := 0 },
                { dst := Option.some 8, g := Go.Am.QG.no, op := Go.Op.load 3 (Go.Operand.tmp 7), type := 3 },
                { dst := Option.some 9, g := Go.Am.QG.no, op := Go.Op.move (Go.Operand.tmp 0), type := 65 },
                { dst := Option.some 10, g := Go.Am.QG.no, op := Go.Op.nilCheck (Go.Operand.tmp 9), type := 0 },
                { dst := Option.some 11, g := Go.Am.QG.no, op := Go.Op.fieldAddr 70 (Go.Operand.tmp 10) 0, type := 0 },
                { dst := Option.some 12, g := Go.Am.QG.no, op := Go.Op.load 9 (Go.Operand.tmp 11), type := 9 },
                { dst := Option.some 13, g := Go.Am.QG.no,
                  op :=
                    Go.Op.call
                      { callee := Go.Callee.builtin Go.Builtin.len, args := { toList := [Go.Operand.tmp 12] },
                        argTypes := { toList := [9] } },
                  type := 3 },
                { dst := Option.some 14, g := Go.Am.QG.no,
                  op := Go.Op.binOp Go.BinOp.eql 3 (Go.Operand.tmp 8) (Go.Operand.tmp 13) 3, type := 4 },
                { dst := Option.some 15, g := Go.Am.QG.no, op := Go.Op.move (Go.Operand.tmp 14), type := 4 },
                { dst := Option.some 16, g := Go.Am.QG.at 15 Bool.false, op := Go.Op.move (Go.Operand.tmp 0),
                  type := 65 },
                { dst := Option.some 17, g := Go.Am.QG.at 15 Bool.false, op := Go.Op.nilCheck (Go.Operand.tmp 16),
                  type := 0 },
                { dst := Option.some 18, g := Go.Am.QG.at 15 Bool.false, op := Go.Op.fieldAddr 70 (Go.Operand.tmp 17) 0,
                  type := 0 },
                { dst := Option.some 19, g := Go.Am.QG.at 15 Bool.false, op := Go.Op.load 9 (Go.Operand.tmp 18),
                  type := 9 },
                { dst := Option.some 20, g := Go.Am.QG.at 15 Bool.false, op := Go.Op.move (Go.Operand.tmp 0),
                  type := 65 },
                { dst := Option.some 21, g := Go.Am.QG.at 15 Bool.false, op := Go.Op.nilCheck (Go.Operand.tmp 20),
                  type := 0 },
                { dst := Option.some 22, g := Go.Am.QG.at 15 Bool.false, op := Go.Op.fieldAddr 70 (Go.Operand.tmp 21) 1,
                  type := 0 },
                { dst := Option.some 23, g := Go.Am.QG.at 15 Bool.false, op := Go.Op.load 3 (Go.Operand.tmp 22),
                  type := 3 },
                { dst := Option.some 24, g := Go.Am.QG.at 15 Bool.false,
                  op := Go.Op.index 9 (Go.Operand.tmp 19) (Go.Operand.tmp 23), type := 5 },
                { dst := Option.some 25, g := Go.Am.QG.at 15 Bool.false, op := Go.Op.move (Go.Operand.tmp 1),
                  type := 5 },
                { dst := Option.some 26, g := Go.Am.QG.at 15 Bool.false,
                  op := Go.Op.binOp Go.BinOp.neq 5 (Go.Operand.tmp 24) (Go.Operand.tmp 25) 5, type := 4 },
                { dst := Option.some 27, g := Go.Am.QG.no,
                  op := Go.Op.pick (Go.Operand.tmp 15) (Go.Operand.const (Go.Value.bool Bool.true)) (Go.Operand.tmp 26),
                  type := 4 }]).seq
          (Go.Am.QC.cond (Go.Operand.tmp 27)
            ((Go.Am.QC.plain
                  [{ dst := Option.some 4, g := Go.Am.QG.no,
                      op := Go.Op.assign (Go.Operand.const (Go.Value.bool Bool.false)), type := 4 }]).seq
              Go.Am.QC.ret)
            Go.Am.QC.skip)).seq
      ((Go.Am.QC.plain
            [{ dst := Option.some 28, g := Go.Am.QG.no, op := Go.Op.move (Go.Operand.tmp 0), type := 65 },
              { dst := Option.some 29, g := Go.Am.QG.no, op := Go.Op.nilCheck (Go.Operand.tmp 28), type := 0 },
              { dst := Option.some 30, g := Go.Am.QG.no, op := Go.Op.fieldAddr 70 (Go.Operand.tmp 29) 1, type := 0 },
              { dst := Option.some 31, g := Go.Am.QG.no, op := Go.Op.load 3 (Go.Operand.tmp 30), type := 3 },
              { dst := Option.some 32, g := Go.Am.QG.no,
                op :=
                  Go.Op.binOp Go.BinOp.add 3 (Go.Operand.tmp 31)
                    (Go.Operand.const (Go.Value.int Go.IntKind.i64 (Int.ofNat 1))) 3,
                type := 3 },
              { dst := Option.some 33, g := Go.Am.QG.no, op := Go.Op.nilCheck (Go.Operand.tmp 28), type := 0 },
              { dst := Option.some 34, g := Go.Am.QG.no, op := Go.Op.fieldAddr 70 (Go.Operand.tmp 33) 1, type := 0 },
              { dst := Option.none, g := Go.Am.QG.no, op := Go.Op.store 3 (Go.Operand.tmp 34) (Go.Operand.tmp 32),
                type := 0 }]).seq
        ((Go.Am.QC.plain
              [{ dst := Option.some 4, g := Go.Am.QG.no,
                  op := Go.Op.assign (Go.Operand.const (Go.Value.bool Bool.true)), type := 4 }]).seq
          Go.Am.QC.ret))))
theorem q50_ok : bodyComp Tryd.prog 50 = some q50 := by kernel_rfl
noncomputable def q51 : QC :=
  ((Go.Am.QC.plain
        [{ dst := Option.some 2, g := Go.Am.QG.no, op := Go.Op.assign (Go.Operand.const (Go.Value.bool Bool.false)),
            type := 4 }]).seq
    ((Go.Am.QC.plain
          [{ dst := Option.some 4, g := Go.Am.QG.no,
              op := Go.Op.build 27 { toList := [(0, Go.Operand.const (Go.Value.int Go.IntKind.i64 (Int.ofNat 1)))] },
              type := 27 },
            { dst := Option.some 3, g := Go.Am.QG.no, op := Go.Op.alloc 27, type := 0 },
            { dst := Option.none, g := Go.Am.QG.no, op := Go.Op.store 27 (Go.Operand.tmp 3) (Go.Operand.tmp 4),
              type := 0 }]).seq
      ((Go.Am.QC.block 0
            ((Go.Am.QC.plain
                  [{ dst := Option.some 9, g := Go.Am.QG.no, op := Go.Op.move (Go.Operand.tmp 0), type := 65 },
                    { dst := Option.some 10, g := Go.Am.QG.no,
                      op :=
                        Go.Op.call
                          { callee := Go.Callee.value (Go.Operand.func 50),
                            args :=
                              {
                                toList :=
                                  [Go.Operand.tmp 9, Go.Operand.const (Go.Value.int Go.IntKind.u8 (Int.ofNat 48))] },
                            argTypes := { toList := [65, 5] } },
                      type := 4 },
                    { dst := Option.some 8, g := Go.Am.QG.no, op := Go.Op.assign (Go.Operand.tmp 10), type := 4 }]).seq
              (Go.Am.QC.cond (Go.Operand.tmp 8)
                (Go.Am.QC.plain
                  [{ dst := Option.some 11, g := Go.Am.QG.no, op := Go.Op.fieldAddr 27 (Go.Operand.tmp 3) 0,
                      type := 0 },
                    { dst := Option.none, g := Go.Am.QG.no,
                      op :=
                        Go.Op.store 3 (Go.Operand.tmp 11)
                          (Go.Operand.const (Go.Value.int Go.IntKind.i64 (Int.ofNat 2))),
                      type := 0 }])
                ((Go.Am.QC.plain
                      [{ dst := Option.some 13, g := Go.Am.QG.no, op := Go.Op.move (Go.Operand.tmp 0), type := 65 },
                        { dst := Option.some 14, g := Go.Am.QG.no,
                          op :=
                            Go.Op.call
                              { callee := Go.Callee.value (Go.Operand.func 50),
                                args :=
                                  {
                                    toList :=
                                      [Go.Operand.tmp 13,
                                        Go.Operand.const (Go.Value.int Go.IntKind.u8 (Int.ofNat 95))] },
                                argTypes := { toList := [65, 5] } },
                          type := 4 },
                        { dst := Option.some 12, g := Go.Am.QG.no, op := Go.Op.assign (Go.Operand.tmp 14),
                          type := 4 }]).seq
                  (Go.Am.QC.cond (Go.Operand.tmp 12)
                    (Go.Am.QC.plain
                      [{ dst := Option.some 15, g := Go.Am.QG.no, op := Go.Op.fieldAddr 27 (Go.Operand.tmp 3) 0,
                          type := 0 },
                        { dst := Option.none, g := Go.Am.QG.no,
                          op :=
                            Go.Op.store 3 (Go.Operand.tmp 15)
                              (Go.Operand.const (Go.Value.int Go.IntKind.i64 (Int.ofNat 3))),
                          type := 0 }])
                    ((Go.Am.QC.plain
                          [{ dst := Option.some 17, g := Go.Am.QG.no, op := Go.Op.move (Go.Operand.tmp 0), type := 65 },
                            { dst := Option.some 18, g := Go.Am.QG.no,
                              op :=
                                Go.Op.call
                                  { callee := Go.Callee.value (Go.Operand.func 50),
                                    args :=
                                      {
                                        toList :=
                                          [Go.Operand.tmp 17,
                                            Go.Operand.const (Go.Value.int Go.IntKind.u8 (Int.ofNat 46))] },
                                    argTypes := { toList := [65, 5] } },
                              type := 4 },
                            { dst := Option.some 16, g := Go.Am.QG.no, op := Go.Op.assign (Go.Operand.tmp 18),
                              type := 4 }]).seq
                      (Go.Am.QC.cond (Go.Operand.tmp 16)
                        (Go.Am.QC.plain
                          [{ dst := Option.some 19, g := Go.Am.QG.no, op := Go.Op.fieldAddr 27 (Go.Operand.tmp 3) 1,
                              type := 0 },
                            { dst := Option.none, g := Go.Am.QG.no,
                              op :=
                                Go.Op.store 3 (Go.Operand.tmp 19)
                                  (Go.Operand.const (Go.Value.int Go.IntKind.i64 (Int.ofNat 31))),
                              type := 0 }])
                        ((Go.Am.QC.plain
                              [{ dst := Option.some 21, g := Go.Am.QG.no, op := Go.Op.move (Go.Operand.tmp 0),
                                  type := 65 },
                                { dst := Option.some 22, g := Go.Am.QG.no,
                                  op :=
                                    Go.Op.call
                                      { callee := Go.Callee.value (Go.Operand.func 50),
                                        args :=
                                          {
                                            toList :=
                                              [Go.Operand.tmp 21,
                                                Go.Operand.const (Go.Value.int Go.IntKind.u8 (Int.ofNat 91))] },
                                        argTypes := { toList := [65, 5] } },
                                  type := 4 },
                                { dst := Option.some 20, g := Go.Am.QG.no, op := Go.Op.assign (Go.Operand.tmp 22),
                                  type := 4 }]).seq
                          (Go.Am.QC.cond (Go.Operand.tmp 20)
                            (Go.Am.QC.plain
                              [{ dst := Option.some 23, g := Go.Am.QG.no, op := Go.Op.move (Go.Operand.tmp 0),
                                  type := 65 },
                                { dst := Option.some 24, g := Go.Am.QG.no,
                                  op :=
                                    Go.Op.call
                                      { callee := Go.Callee.value (Go.Operand.func 63),
                                        args := { toList := [Go.Operand.tmp 23] }, argTypes := { toList := [65] } },
                                  type := 3 },
                                { dst := Option.some 25, g := Go.Am.QG.no,
                                  op := Go.Op.fieldAddr 27 (Go.Operand.tmp 3) 1, type := 0 },
                                { dst := Option.none, g := Go.Am.QG.no,
                                  op := Go.Op.store 3 (Go.Operand.tmp 25) (Go.Operand.tmp 24), type := 0 }])
                            (Go.Am.QC.plain
                              [{ dst := Option.some 5, g := Go.Am.QG.no, op := Go.Op.move (Go.Operand.tmp 0),
                                  type := 65 },
                                { dst := Option.some 6, g := Go.Am.QG.no,
                                  op :=
                                    Go.Op.call
                                      { callee := Go.Callee.value (Go.Operand.func 64),
                                        args := { toList := [Go.Operand.tmp 5] }, argTypes := { toList := [65] } },
                                  type := 3 },
                                { dst := Option.some 7, g := Go.Am.QG.no, op := Go.Op.fieldAddr 27 (Go.Operand.tmp 3) 1,
                                  type := 0 },
                                { dst := Option.none, g := Go.Am.QG.no,
                                  op := Go.Op.store 3 (Go.Operand.tmp 7) (Go.Operand.tmp 6), type := 0 }])))))))))).seq
        (((Go.Am.QC.plain
                  [{ dst := Option.some 26, g := Go.Am.QG.no, op := Go.Op.load 27 (Go.Operand.tmp 3), type := 27 },
                    { dst := Option.some 27, g := Go.Am.QG.no,
                      op :=
                        Go.Op.call
                          { callee := Go.Callee.value (Go.Operand.func 34), args := { toList := [Go.Operand.tmp 26] },
                            argTypes := { toList := [27] } },
                      type := 4 },
                    { dst := Option.some 28, g := Go.Am.QG.no, op := Go.Op.unOp Go.UnOp.not 4 (Go.Operand.tmp 27),
                      type := 4 }]).seq
              (Go.Am.QC.cond (Go.Operand.tmp 28)
                ((Go.Am.QC.plain
                      [{ dst := Option.some 2, g := Go.Am.QG.no,
                          op := Go.Op.assign (Go.Operand.const (Go.Value.bool Bool.false)), type := 4 }]).seq
                  Go.Am.QC.ret)
                Go.Am.QC.skip)).seq
          ((Go.Am.QC.plain
                [{ dst := Option.some 29, g := Go.Am.QG.no, op := Go.Op.move (Go.Operand.tmp 0), type := 65 },
                  { dst := Option.some 30, g := Go.Am.QG.no, op := Go.Op.load 27 (Go.Operand.tmp 3), type := 27 },
                  { dst := Option.some 31, g := Go.Am.QG.no,
                    op :=
                      Go.Op.call
                        { callee := Go.Callee.value (Go.Operand.func 65),
                          args := { toList := [Go.Operand.tmp 29, Go.Operand.tmp 30] },
                          argTypes := { toList := [65, 27] } },
                    type := 0 }]).seq
            ((Go.Am.QC.plain
                  [{ dst := Option.some 2, g := Go.Am.QG.no,
                      op := Go.Op.assign (Go.Operand.const (Go.Value.bool Bool.true)), type := 4 }]).seq
              Go.Am.QC.ret))))))
theorem q51_ok : bodyComp Tryd.prog 51 = some q51 := by kernel_rfl
noncomputable def q52 : QC :=
  ((Go.Am.QC.plain [{ dst := Option.some 3, g := Go.Am.QG.no, op := Go.Op.box 27 (Go.Operand.tmp 1), type := 0 }]).seq
    ((Go.Am.QC.plain
          [{ dst := Option.some 6, g := Go.Am.QG.no, op := Go.Op.move (Go.Operand.tmp 0), type := 65 },
            { dst := Option.some 7, g := Go.Am.QG.no,
              op :=
                Go.Op.call
                  { callee := Go.Callee.value (Go.Operand.func 37), args := { toList := [Go.Operand.tmp 6] },
                    argTypes := { toList := [65] } },
              type := 71 },
            { dst := Option.some 8, g := Go.Am.QG.no, op := Go.Op.nilCheck (Go.Operand.tmp 7), type := 0 },
            { dst := Option.some 9, g := Go.Am.QG.no, op := Go.Op.fieldAddr 87 (Go.Operand.tmp 8) 1, type := 0 },
            { dst := Option.some 10, g := Go.Am.QG.no, op := Go.Op.load 25 (Go.Operand.tmp 9), type := 25 },
            { dst := Option.some 4, g := Go.Am.QG.no, op := Go.Op.assign (Go.Operand.tmp 10), type := 25 }]).seq
      ((Go.Am.QC.plain
            [{ dst := Option.some 11, g := Go.Am.QG.no, op := Go.Op.move (Go.Operand.tmp 4), type := 25 },
              { dst := Option.some 12, g := Go.Am.QG.no, op := Go.Op.move (Go.Operand.tmp 4), type := 25 },
              { dst := Option.some 13, g := Go.Am.QG.no,
                op :=
                  Go.Op.call
                    { callee := Go.Callee.builtin Go.Builtin.len, args := { toList := [Go.Operand.tmp 12] },
                      argTypes := { toList := [25] } },
                type := 3 },
              { dst := Option.some 14, g := Go.Am.QG.no,
                op :=
                  Go.Op.binOp Go.BinOp.sub 3 (Go.Operand.tmp 13)
                    (Go.Operand.const (Go.Value.int Go.IntKind.i64 (Int.ofNat 1))) 3,
                type := 3 },
              { dst := Option.some 15, g := Go.Am.QG.no,
                op := Go.Op.indexAddr 25 (Go.Operand.tmp 11) (Go.Operand.tmp 14), type := 0 },
              { dst := Option.some 5, g := Go.Am.QG.no, op := Go.Op.assign (Go.Operand.tmp 15), type := 92 }]).seq
        ((Go.Am.QC.plain
              [{ dst := Option.some 16, g := Go.Am.QG.no, op := Go.Op.move (Go.Operand.tmp 5), type := 92 },
                { dst := Option.some 17, g := Go.Am.QG.no, op := Go.Op.nilCheck (Go.Operand.tmp 16), type := 0 },
                { dst := Option.some 18, g := Go.Am.QG.no, op := Go.Op.load 27 (Go.Operand.tmp 17), type := 27 },
                { dst := Option.some 19, g := Go.Am.QG.no,
                  op := Go.Op.buildSlice 25 1 { toList := [(0, Go.Operand.tmp 18)] }, type := 25 },
                { dst := Option.some 20, g := Go.Am.QG.no, op := Go.Op.fieldAddr 27 (Go.Operand.tmp 3) 4, type := 0 },
                { dst := Option.none, g := Go.Am.QG.no, op := Go.Op.store 25 (Go.Operand.tmp 20) (Go.Operand.tmp 19),
                  type := 0 }]).seq
          (Go.Am.QC.plain
            [{ dst := Option.some 21, g := Go.Am.QG.no, op := Go.Op.move (Go.Operand.tmp 5), type := 92 },
              { dst := Option.some 22, g := Go.Am.QG.no, op := Go.Op.load 27 (Go.Operand.tmp 3), type := 27 },
              { dst := Option.some 23, g := Go.Am.QG.no, op := Go.Op.nilCheck (Go.Operand.tmp 21), type := 0 },
              { dst := Option.none, g := Go.Am.QG.no, op := Go.Op.store 27 (Go.Operand.tmp 23) (Go.Operand.tmp 22),
                type := 0 }])))))
theorem q52_ok : bodyComp Tryd.prog 52 = some q52 := by kernel_rfl
noncomputable def q53 : QC :=
  ((Go.Am.QC.plain
        [{ dst := Option.some 2, g := Go.Am.QG.no, op := Go.Op.assign (Go.Operand.const (Go.Value.bool Bool.false)),
            type := 4 }]).seq
    ((Go.Am.QC.plain
          [{ dst := Option.some 5, g := Go.Am.QG.no,
              op := Go.Op.build 27 { toList := [(0, Go.Operand.const (Go.Value.int Go.IntKind.i64 (Int.ofNat 9)))] },
              type := 27 },
            { dst := Option.some 3, g := Go.Am.QG.no, op := Go.Op.alloc 27, type := 0 },
            { dst := Option.none, g := Go.Am.QG.no, op := Go.Op.store 27 (Go.Operand.tmp 3) (Go.Operand.tmp 5),
              type := 0 }]).seq
      ((Go.Am.QC.plain
            [{ dst := Option.some 6, g := Go.Am.QG.no, op := Go.Op.move (Go.Operand.tmp 0), type := 65 },
              { dst := Option.some 7, g := Go.Am.QG.no, op := Go.Op.nilCheck (Go.Operand.tmp 6), type := 0 },
              { dst := Option.some 8, g := Go.Am.QG.no, op := Go.Op.fieldAddr 70 (Go.Operand.tmp 7) 1, type := 0 },
              { dst := Option.some 9, g := Go.Am.QG.no, op := Go.Op.load 3 (Go.Operand.tmp 8), type := 3 },
              { dst := Option.some 10, g := Go.Am.QG.no,
                op :=
                  Go.Op.binOp Go.BinOp.sub 3 (Go.Operand.tmp 9)
                    (Go.Operand.const (Go.Value.int Go.IntKind.i64 (Int.ofNat 1))) 3,
                type := 3 },
              { dst := Option.some 4, g := Go.Am.QG.no, op := Go.Op.assign (Go.Operand.tmp 10), type := 3 }]).seq
        (((Go.Am.QC.plain
                  [{ dst := Option.some 11, g := Go.Am.QG.no, op := Go.Op.move (Go.Operand.tmp 0), type := 65 },
                    { dst := Option.some 12, g := Go.Am.QG.no, op := Go.Op.fieldAddr 27 (Go.Operand.tmp 3) 2,
                      type := 0 },
                    { dst := Option.some 13, g := Go.Am.QG.no, op := Go.Op.move (Go.Operand.tmp 4), type := 3 },
                    { dst := Option.some 14, g := Go.Am.QG.no,
                      op :=
                        Go.Op.call
                          { callee := Go.Callee.value (Go.Operand.func 66),
                            args := { toList := [Go.Operand.tmp 11, Go.Operand.tmp 12, Go.Operand.tmp 13] },
                            argTypes := { toList := [65, 94, 3] } },
                      type := 4 },
                    { dst := Option.some 15, g := Go.Am.QG.no, op := Go.Op.unOp Go.UnOp.not 4 (Go.Operand.tmp 14),
                      type := 4 },
                    { dst := Option.some 16, g := Go.Am.QG.no, op := Go.Op.move (Go.Operand.tmp 15), type := 4 },
                    { dst := Option.some 17, g := Go.Am.QG.at 16 Bool.false, op := Go.Op.move (Go.Operand.tmp 0),
                      type := 65 },
                    { dst := Option.some 18, g := Go.Am.QG.at 16 Bool.false,
                      op :=
                        Go.Op.call
                          { callee := Go.Callee.value (Go.Operand.func 50),
                            args :=
                              {
                                toList :=
                                  [Go.Operand.tmp 17, Go.Operand.const (Go.Value.int Go.IntKind.u8 (Int.ofNat 44))] },
                            argTypes := { toList := [65, 5] } },
                      type := 4 },
                    { dst := Option.some 19, g := Go.Am.QG.at 16 Bool.false,
                      op := Go.Op.unOp Go.UnOp.not 4 (Go.Operand.tmp 18), type := 4 },
                    { dst := Option.some 20, g := Go.Am.QG.no,
                      op :=
                        Go.Op.pick (Go.Operand.tmp 16) (Go.Operand.const (Go.Value.bool Bool.true)) (Go.Operand.tmp 19),
                      type := 4 },
                    { dst := Option.some 21, g := Go.Am.QG.no, op := Go.Op.move (Go.Operand.tmp 20), type := 4 },
                    { dst := Option.some 22, g := Go.Am.QG.at 21 Bool.false, op := Go.Op.move (Go.Operand.tmp 0),
                      type := 65 },
                    { dst := Option.some 23, g := Go.Am.QG.at 21 Bool.false,
                      op := Go.Op.fieldAddr 27 (Go.Operand.tmp 3) 3, type := 0 },
                    { dst := Option.some 24, g := Go.Am.QG.at 21 Bool.false, op := Go.Op.move (Go.Operand.tmp 4),
                      type := 3 },
                    { dst := Option.some 25, g := Go.Am.QG.at 21 Bool.false,
                      op :=
                        Go.Op.call
                          { callee := Go.Callee.value (Go.Operand.func 66),
                            args := { toList := [Go.Operand.tmp 22, Go.Operand.tmp 23, Go.Operand.tmp 24] },
                            argTypes := { toList := [65, 94, 3] } },
                      type := 4 },
                    { dst := Option.some 26, g := Go.Am.QG.at 21 Bool.false,
                      op := Go.Op.unOp Go.UnOp.not 4 (Go.Operand.tmp 25), type := 4 },
                    { dst := Option.some 27, g := Go.Am.QG.no,
                      op :=
                        Go.Op.pick (Go.Operand.tmp 21) (Go.Operand.const (Go.Value.bool Bool.true)) (Go.Operand.tmp 26),
                      type := 4 },
                    { dst := Option.some 28, g := Go.Am.QG.no, op := Go.Op.move (Go.Operand.tmp 27), type := 4 },
                    { dst := Option.some 29, g := Go.Am.QG.at 28 Bool.false, op := Go.Op.move (Go.Operand.tmp 0),
                      type := 65 },
                    { dst := Option.some 30, g := Go.Am.QG.at 28 Bool.false,
                      op :=
                        Go.Op.call
                          { callee := Go.Callee.value (Go.Operand.func 50),
                            args :=
                              {
                                toList :=
                                  [Go.Operand.tmp 29, Go.Operand.const (Go.Value.int Go.IntKind.u8 (Int.ofNat 125))] },
                            argTypes := { toList := [65, 5] } },
                      type := 4 },
                    { dst := Option.some 31, g := Go.Am.QG.at 28 Bool.false,
                      op := Go.Op.unOp Go.UnOp.not 4 (Go.Operand.tmp 30), type := 4 },
                    { dst := Option.some 32, g := Go.Am.QG.no,
                      op :=
                        Go.Op.pick (Go.Operand.tmp 28) (Go.Operand.const (Go.Value.bool Bool.true)) (Go.Operand.tmp 31),
                      type := 4 }]).seq
              (Go.Am.QC.cond (Go.Operand.tmp 32)
                ((Go.Am.QC.plain
                      [{ dst := Option.some 2, g := Go.Am.QG.no,
                          op := Go.Op.assign (Go.Operand.const (Go.Value.bool Bool.false)), type := 4 }]).seq
                  Go.Am.QC.ret)
                Go.Am.QC.skip)).seq
          (((Go.Am.QC.plain
                    [{ dst := Option.some 33, g := Go.Am.QG.no, op := Go.Op.fieldAddr 27 (Go.Operand.tmp 3) 2,
                        type := 0 },
                      { dst := Option.some 34, g := Go.Am.QG.no, op := Go.Op.load 3 (Go.Operand.tmp 33), type := 3 },
                      { dst := Option.some 35, g := Go.Am.QG.no, op := Go.Op.fieldAddr 27 (Go.Operand.tmp 3) 3,
                        type := 0 },
                      { dst := Option.some 36, g := Go.Am.QG.no, op := Go.Op.load 3 (Go.Operand.tmp 35), type := 3 },
                      { dst := Option.some 37, g := Go.Am.QG.no,
                        op :=
                          Go.Op.call
                            { callee := Go.Callee.value (Go.Operand.func 49),
                              args := { toList := [Go.Operand.tmp 34, Go.Operand.tmp 36] },
                              argTypes := { toList := [3, 3] } },
                        type := 4 },
                      { dst := Option.some 38, g := Go.Am.QG.no, op := Go.Op.unOp Go.UnOp.not 4 (Go.Operand.tmp 37),
                        type := 4 }]).seq
                (Go.Am.QC.cond (Go.Operand.tmp 38)
                  ((Go.Am.QC.plain
                        [{ dst := Option.some 39, g := Go.Am.QG.no, op := Go.Op.move (Go.Operand.tmp 0), type := 65 },
                          { dst := Option.some 40, g := Go.Am.QG.no, op := Go.Op.move (Go.Operand.tmp 4), type := 3 },
                          { dst := Option.some 41, g := Go.Am.QG.no, op := Go.Op.nilCheck (Go.Operand.tmp 39),
                            type := 0 },
                          { dst := Option.some 42, g := Go.Am.QG.no, op := Go.Op.fieldAddr 70 (Go.Operand.tmp 41) 1,
                            type := 0 },
                          { dst := Option.none, g := Go.Am.QG.no,
                            op := Go.Op.store 3 (Go.Operand.tmp 42) (Go.Operand.tmp 40), type := 0 }]).seq
                    ((Go.Am.QC.plain
                          [{ dst := Option.some 2, g := Go.Am.QG.no,
                              op := Go.Op.assign (Go.Operand.const (Go.Value.bool Bool.false)), type := 4 }]).seq
                      Go.Am.QC.ret))
                  Go.Am.QC.skip)).seq
            ((Go.Am.QC.plain
                  [{ dst := Option.some 43, g := Go.Am.QG.no, op := Go.Op.move (Go.Operand.tmp 0), type := 65 },
                    { dst := Option.some 44, g := Go.Am.QG.no, op := Go.Op.load 27 (Go.Operand.tmp 3), type := 27 },
                    { dst := Option.some 45, g := Go.Am.QG.no,
                      op :=
                        Go.Op.call
                          { callee := Go.Callee.value (Go.Operand.func 52),
                            args := { toList := [Go.Operand.tmp 43, Go.Operand.tmp 44] },
                            argTypes := { toList := [65, 27] } },
                      type := 0 }]).seq
              ((Go.Am.QC.plain
                    [{ dst := Option.some 2, g := Go.Am.QG.no,
                        op := Go.Op.assign (Go.Operand.const (Go.Value.bool Bool.true)), type := 4 }]).seq
                Go.Am.QC.ret)))))))
theorem q53_ok : bodyComp Tryd.prog 53 = some q53 := by kernel_rfl
noncomputable def q54 : QC :=
  ((Go.Am.QC.plain
        [{ dst := Option.some 2, g := Go.Am.QG.no, op := Go.Op.assign (Go.Operand.const (Go.Value.bool Bool.false)),
            type := 4 }]).seq
    ((Go.Am.QC.plain
          [{ dst := Option.some 3, g := Go.Am.QG.no, op := Go.Op.move (Go.Operand.tmp 0), type := 65 },
            { dst := Option.some 4, g := Go.Am.QG.no, op := Go.Op.nilCheck (Go.Operand.tmp 3), type := 0 },
            { dst := Option.some 5, g := Go.Am.QG.no, op := Go.Op.fieldAddr 70 (Go.Operand.tmp 4) 2, type := 0 },
            { dst := Option.some 6, g := Go.Am.QG.no, op := Go.Op.load 68 (Go.Operand.tmp 5), type := 68 },
            { dst := Option.some 7, g := Go.Am.QG.no,
              op :=
                Go.Op.call
                  { callee := Go.Callee.builtin Go.Builtin.len, args := { toList := [Go.Operand.tmp 6] },
                    argTypes := { toList := [68] } },
              type := 3 },
            { dst := Option.some 8, g := Go.Am.QG.no,
              op :=
                Go.Op.binOp Go.BinOp.gtr 3 (Go.Operand.tmp 7)
                  (Go.Operand.const (Go.Value.int Go.IntKind.i64 (Int.ofNat 1))) 3,
              type := 4 },
            { dst := Option.some 2, g := Go.Am.QG.no, op := Go.Op.assign (Go.Operand.tmp 8), type := 4 }]).seq
      Go.Am.QC.ret))
theorem q54_ok : bodyComp Tryd.prog 54 = some q54 := by kernel_rfl
noncomputable def q55 : QC :=
  ((Go.Am.QC.plain
        [{ dst := Option.some 3, g := Go.Am.QG.no, op := Go.Op.move (Go.Operand.tmp 0), type := 65 },
          { dst := Option.some 4, g := Go.Am.QG.no,
            op :=
              Go.Op.call
                { callee := Go.Callee.value (Go.Operand.func 37), args := { toList := [Go.Operand.tmp 3] },
                  argTypes := { toList := [65] } },
            type := 71 },
          { dst := Option.some 5, g := Go.Am.QG.no,
            op :=
              Go.Op.call
                { callee := Go.Callee.value (Go.Operand.func 38), args := { toList := [Go.Operand.tmp 4] },
                  argTypes := { toList := [71] } },
            type := 27 },
          { dst := Option.some 2, g := Go.Am.QG.no, op := Go.Op.alloc 27, type := 0 },
          { dst := Option.none, g := Go.Am.QG.no, op := Go.Op.store 27 (Go.Operand.tmp 2) (Go.Operand.tmp 5),
            type := 0 }]).seq
    ((Go.Am.QC.plain
          [{ dst := Option.some 6, g := Go.Am.QG.no, op := Go.Op.move (Go.Operand.tmp 0), type := 65 },
            { dst := Option.some 7, g := Go.Am.QG.no, op := Go.Op.move (Go.Operand.tmp 0), type := 65 },
            { dst := Option.some 8, g := Go.Am.QG.no, op := Go.Op.nilCheck (Go.Operand.tmp 7), type := 0 },
            { dst := Option.some 9, g := Go.Am.QG.no, op := Go.Op.fieldAddr 70 (Go.Operand.tmp 8) 2, type := 0 },
            { dst := Option.some 10, g := Go.Am.QG.no, op := Go.Op.load 68 (Go.Operand.tmp 9), type := 68 },
            { dst := Option.some 11, g := Go.Am.QG.no, op := Go.Op.move (Go.Operand.tmp 0), type := 65 },
            { dst := Option.some 12, g := Go.Am.QG.no, op := Go.Op.nilCheck (Go.Operand.tmp 11), type := 0 },
            { dst := Option.some 13, g := Go.Am.QG.no, op := Go.Op.fieldAddr 70 (Go.Operand.tmp 12) 2, type := 0 },
            { dst := Option.some 14, g := Go.Am.QG.no, op := Go.Op.load 68 (Go.Operand.tmp 13), type := 68 },
            { dst := Option.some 15, g := Go.Am.QG.no,
              op :=
                Go.Op.call
                  { callee := Go.Callee.builtin Go.Builtin.len, args := { toList := [Go.Operand.tmp 14] },
                    argTypes := { toList := [68] } },
              type := 3 },
            { dst := Option.some 16, g := Go.Am.QG.no,
              op :=
                Go.Op.binOp Go.BinOp.sub 3 (Go.Operand.tmp 15)
                  (Go.Operand.const (Go.Value.int Go.IntKind.i64 (Int.ofNat 1))) 3,
              type := 3 },
            { dst := Option.some 17, g := Go.Am.QG.no,
              op := Go.Op.slice 68 (Go.Operand.tmp 10) Option.none (Option.some (Go.Operand.tmp 16)) Option.none,
              type := 68 },
            { dst := Option.some 18, g := Go.Am.QG.no, op := Go.Op.nilCheck (Go.Operand.tmp 6), type := 0 },
            { dst := Option.some 19, g := Go.Am.QG.no, op := Go.Op.fieldAddr 70 (Go.Operand.tmp 18) 2, type := 0 },
            { dst := Option.none, g := Go.Am.QG.no, op := Go.Op.store 68 (Go.Operand.tmp 19) (Go.Operand.tmp 17),
              type := 0 }]).seq
      (Go.Am.QC.plain
        [{ dst := Option.some 20, g := Go.Am.QG.no, op := Go.Op.move (Go.Operand.tmp 0), type := 65 },
          { dst := Option.some 21, g := Go.Am.QG.no, op := Go.Op.load 27 (Go.Operand.tmp 2), type := 27 },
          { dst := Option.some 22, g := Go.Am.QG.no,
            op :=
              Go.Op.call
                { callee := Go.Callee.value (Go.Operand.func 65),
                  args := { toList := [Go.Operand.tmp 20, Go.Operand.tmp 21] }, argTypes := { toList := [65, 27] } },
            type := 0 }])))
theorem q55_ok : bodyComp Tryd.prog 55 = some q55 := by kernel_rfl
noncomputable def q56 : QC :=
  ((Go.Am.QC.drawn
        {
          toList :=
            [{ dst := Option.some 2, op := Go.Op.move (Go.Operand.tmp 0), type := 71, pos := "parser.go:17",
                after := { toList := [] }, guard := Option.none },
              { dst := Option.some 3, op := Go.Op.nilCheck (Go.Operand.tmp 2), type := 0, pos := "parser.go:17",
                after := { toList := [{ on := 0, ground := Go.Ground.data }] }, guard := Option.none },
              { dst := Option.some 4, op := Go.Op.fieldAddr 87 (Go.Operand.tmp 3) 0, type := 0, pos := "parser.go:17",
                after := { toList := [{ on := 1, ground := Go.Ground.data }] }, guard := Option.none },
              { dst := Option.some 5, op := Go.Op.load 25 (Go.Operand.tmp 4), type := 25, pos := "parser.go:17",
                after := { toList := [{ on := 2, ground := Go.Ground.data }] }, guard := Option.none },
              { dst := Option.some 6, op := Go.Op.move (Go.Operand.tmp 0), type := 71, pos := "parser.go:17",
                after := { toList := [] }, guard := Option.none },
              { dst := Option.some 7, op := Go.Op.nilCheck (Go.Operand.tmp 6), type := 0, pos := "parser.go:17",
                after := { toList := [{ on := 4, ground := Go.Ground.data }] }, guard := Option.none },
              { dst := Option.some 8, op := Go.Op.fieldAddr 87 (Go.Operand.tmp 7) 1, type := 0, pos := "parser.go:17",
                after := { toList := [{ on := 5, ground := Go.Ground.data }] }, guard := Option.none },
              { dst := Option.some 9, op := Go.Op.load 25 (Go.Operand.tmp 8), type := 25, pos := "parser.go:17",
                after := { toList := [{ on := 6, ground := Go.Ground.data }] }, guard := Option.none },
              { dst := Option.some 10,
                op :=
                  Go.Op.call
                    { callee := Go.Callee.value (Go.Operand.func 57),
                      args :=
                        { toList := [Go.Operand.const (Go.Value.int Go.IntKind.i64 (Int.ofNat 4)), Go.Operand.tmp 9] },
                      argTypes := { toList := [3, 25] } },
                type := 27, pos := "parser.go:17", after := { toList := [{ on := 7, ground := Go.Ground.data }] },
                guard := Option.none },
              { dst := Option.some 11,
                op :=
                  Go.Op.call
                    { callee := Go.Callee.builtin Go.Builtin.len, args := { toList := [Go.Operand.tmp 5] },
                      argTypes := { toList := [25] } },
                type := 3, pos := "parser.go:17", after := { toList := [{ on := 3, ground := Go.Ground.data }] },
                guard := Option.none },
              { dst := Option.some 12,
                op :=
                  Go.Op.buildSlice 25 1
                    {
                      toList :=
                        [(0,
                            Go.Operand.const
                              (Go.Value.agg
                                {
                                  toList :=
                                    [Go.Value.int Go.IntKind.i64 (Int.ofNat 0),
                                      Go.Value.int Go.IntKind.i64 (Int.ofNat 0),
                                      Go.Value.int Go.IntKind.i64 (Int.ofNat 0),
                                      Go.Value.int Go.IntKind.i64 (Int.ofNat 0), Go.Value.slice Option.none 0 0] }))] },
                type := 25, pos := "parser.go:17", after := { toList := [] }, guard := Option.none },
              { dst := Option.some 13,
                op :=
                  Go.Op.call
                    { callee := Go.Callee.builtin Go.Builtin.append,
                      args := { toList := [Go.Operand.tmp 5, Go.Operand.tmp 12] }, argTypes := { toList := [25, 25] } },
                type := 25, pos := "parser.go:17",
                after :=
                  {
                    toList :=
                      [{ on := 3, ground := Go.Ground.data }, { on := 10, ground := Go.Ground.data },
                        { on := 8, ground := Go.Ground.chain }, { on := 0, ground := Go.Ground.phase },
                        { on := 1, ground := Go.Ground.phase }, { on := 2, ground := Go.Ground.phase },
                        { on := 3, ground := Go.Ground.phase }, { on := 4, ground := Go.Ground.phase },
                        { on := 5, ground := Go.Ground.phase }, { on := 6, ground := Go.Ground.phase },
                        { on := 7, ground := Go.Ground.phase }, { on := 8, ground := Go.Ground.phase },
                        { on := 9, ground := Go.Ground.phase }, { on := 10, ground := Go.Ground.phase }] },
                guard := Option.none },
              { dst := Option.some 14, op := Go.Op.indexAddr 25 (Go.Operand.tmp 13) (Go.Operand.tmp 11), type := 0,
                pos := "parser.go:17",
                after :=
                  {
                    toList :=
                      [{ on := 11, ground := Go.Ground.data }, { on := 9, ground := Go.Ground.data },
                        { on := 0, ground := Go.Ground.phase }, { on := 1, ground := Go.Ground.phase },
                        { on := 2, ground := Go.Ground.phase }, { on := 3, ground := Go.Ground.phase },
                        { on := 4, ground := Go.Ground.phase }, { on := 5, ground := Go.Ground.phase },
                        { on := 6, ground := Go.Ground.phase }, { on := 7, ground := Go.Ground.phase },
                        { on := 8, ground := Go.Ground.phase }, { on := 9, ground := Go.Ground.phase },
                        { on := 10, ground := Go.Ground.phase }, { on := 11, ground := Go.Ground.phase },
                        { on := 16, ground := Go.Ground.gcOnly Go.Departure.appendInPlace }] },
                guard := Option.none },
              { dst := Option.none, op := Go.Op.store 27 (Go.Operand.tmp 14) (Go.Operand.tmp 10), type := 0,
                pos := "parser.go:17",
                after :=
                  {
                    toList :=
                      [{ on := 12, ground := Go.Ground.data }, { on := 8, ground := Go.Ground.data },
                        { on := 11, ground := Go.Ground.chain }, { on := 0, ground := Go.Ground.phase },
                        { on := 1, ground := Go.Ground.phase }, { on := 2, ground := Go.Ground.phase },
                        { on := 3, ground := Go.Ground.phase }, { on := 4, ground := Go.Ground.phase },
                        { on := 5, ground := Go.Ground.phase }, { on := 6, ground := Go.Ground.phase },
                        { on := 7, ground := Go.Ground.phase }, { on := 8, ground := Go.Ground.phase },
                        { on := 9, ground := Go.Ground.phase }, { on := 10, ground := Go.Ground.phase },
                        { on := 11, ground := Go.Ground.phase },
                        { on := 16, ground := Go.Ground.gcOnly Go.Departure.appendInPlace }] },
                guard := Option.none },
              { dst := Option.some 15, op := Go.Op.nilCheck (Go.Operand.tmp 2), type := 0, pos := "parser.go:17",
                after :=
                  {
                    toList :=
                      [{ on := 0, ground := Go.Ground.data }, { on := 0, ground := Go.Ground.phase },
                        { on := 1, ground := Go.Ground.phase }, { on := 2, ground := Go.Ground.phase },
                        { on := 3, ground := Go.Ground.phase }, { on := 4, ground := Go.Ground.phase },
                        { on := 5, ground := Go.Ground.phase }, { on := 6, ground := Go.Ground.phase },
                        { on := 7, ground := Go.Ground.phase }, { on := 8, ground := Go.Ground.phase },
                        { on := 9, ground := Go.Ground.phase }, { on := 10, ground := Go.Ground.phase },
                        { on := 11, ground := Go.Ground.phase },
                        { on := 12, ground := Go.Ground.textOnly Go.Departure.appendInPlace },
                        { on := 13, ground := Go.Ground.textOnly Go.Departure.appendInPlace }] },
                guard := Option.none },
              { dst := Option.some 16, op := Go.Op.fieldAddr 87 (Go.Operand.tmp 15) 0, type := 0, pos := "parser.go:17",
                after :=
                  {
                    toList :=
                      [{ on := 14, ground := Go.Ground.data }, { on := 0, ground := Go.Ground.phase },
                        { on := 1, ground := Go.Ground.phase }, { on := 2, ground := Go.Ground.phase },
                        { on := 3, ground := Go.Ground.phase }, { on := 4, ground := Go.Ground.phase },
                        { on := 5, ground := Go.Ground.phase }, { on := 6, ground := Go.Ground.phase },
                        { on := 7, ground := Go.Ground.phase }, { on := 8, ground := Go.Ground.phase },
                        { on := 9, ground := Go.Ground.phase }, { on := 10, ground := Go.Ground.phase },
                        { on := 11, ground := Go.Ground.phase },
                        { on := 12, ground := Go.Ground.textOnly Go.Departure.appendInPlace },
                        { on := 13, ground := Go.Ground.textOnly Go.Departure.appendInPlace }] },
                guard := Option.none },
              { dst := Option.none, op := Go.Op.store 25 (Go.Operand.tmp 16) (Go.Operand.tmp 13), type := 0,
                pos := "parser.go:17",
                after :=
                  {
                    toList :=
                      [{ on := 15, ground := Go.Ground.data }, { on := 11, ground := Go.Ground.data },
                        { on := 11, ground := Go.Ground.chain },
                        { on := 13, ground := Go.Ground.textOnly Go.Departure.appendInPlace },
                        { on := 0, ground := Go.Ground.phase }, { on := 1, ground := Go.Ground.phase },
                        { on := 2, ground := Go.Ground.phase }, { on := 3, ground := Go.Ground.phase },
                        { on := 4, ground := Go.Ground.phase }, { on := 5, ground := Go.Ground.phase },
                        { on := 6, ground := Go.Ground.phase }, { on := 7, ground := Go.Ground.phase },
                        { on := 8, ground := Go.Ground.phase }, { on := 9, ground := Go.Ground.phase },
                        { on := 10, ground := Go.Ground.phase }, { on := 11, ground := Go.Ground.phase },
                        { on := 12, ground := Go.Ground.textOnly Go.Departure.appendInPlace },
                        { on := 13, ground := Go.Ground.textOnly Go.Departure.appendInPlace }] },
                guard := Option.none }] }).seq
    (Go.Am.QC.plain
      [{ dst := Option.some 17, g := Go.Am.QG.no, op := Go.Op.move (Go.Operand.tmp 0), type := 71 },
        { dst := Option.some 18, g := Go.Am.QG.no, op := Go.Op.nilCheck (Go.Operand.tmp 17), type := 0 },
        { dst := Option.some 19, g := Go.Am.QG.no, op := Go.Op.fieldAddr 87 (Go.Operand.tmp 18) 1, type := 0 },
        { dst := Option.none, g := Go.Am.QG.no,
          op := Go.Op.store 25 (Go.Operand.tmp 19) (Go.Operand.const (Go.Value.slice Option.none 0 0)), type := 0 }]))
theorem q56_ok : bodyComp Tryd.prog 56 = some q56 := by kernel_rfl
noncomputable def q57 : QC :=
  ((Go.Am.QC.plain [{ dst := Option.some 4, g := Go.Am.QG.no, op := Go.Op.alloc 27, type := 0 }]).seq
    (((Go.Am.QC.plain
              [{ dst := Option.some 5, g := Go.Am.QG.no, op := Go.Op.move (Go.Operand.tmp 1), type := 25 },
                { dst := Option.some 6, g := Go.Am.QG.no,
                  op :=
                    Go.Op.call
                      { callee := Go.Callee.builtin Go.Builtin.len, args := { toList := [Go.Operand.tmp 5] },
                        argTypes := { toList := [25] } },
                  type := 3 },
                { dst := Option.some 7, g := Go.Am.QG.no,
                  op :=
                    Go.Op.binOp Go.BinOp.eql 3 (Go.Operand.tmp 6)
                      (Go.Operand.const (Go.Value.int Go.IntKind.i64 (Int.ofNat 1))) 3,
                  type := 4 }]).seq
          (Go.Am.QC.cond (Go.Operand.tmp 7)
            ((Go.Am.QC.plain
                  [{ dst := Option.some 8, g := Go.Am.QG.no, op := Go.Op.move (Go.Operand.tmp 1), type := 25 },
                    { dst := Option.some 9, g := Go.Am.QG.no,
                      op :=
                        Go.Op.indexAddr 25 (Go.Operand.tmp 8)
                          (Go.Operand.const (Go.Value.int Go.IntKind.i64 (Int.ofNat 0))),
                      type := 0 },
                    { dst := Option.some 10, g := Go.Am.QG.no, op := Go.Op.load 27 (Go.Operand.tmp 9), type := 27 },
                    { dst := Option.none, g := Go.Am.QG.no, op := Go.Op.store 27 (Go.Operand.tmp 4) (Go.Operand.tmp 10),
                      type := 0 }]).seq
              Go.Am.QC.ret)
            Go.Am.QC.skip)).seq
      ((Go.Am.QC.plain
            [{ dst := Option.some 11, g := Go.Am.QG.no, op := Go.Op.move (Go.Operand.tmp 0), type := 3 },
              { dst := Option.some 12, g := Go.Am.QG.no, op := Go.Op.move (Go.Operand.tmp 1), type := 25 },
              { dst := Option.some 13, g := Go.Am.QG.no,
                op := Go.Op.build 27 { toList := [(0, Go.Operand.tmp 11), (4, Go.Operand.tmp 12)] }, type := 27 },
              { dst := Option.none, g := Go.Am.QG.no, op := Go.Op.store 27 (Go.Operand.tmp 4) (Go.Operand.tmp 13),
                type := 0 }]).seq
        Go.Am.QC.ret)))
theorem q57_ok : bodyComp Tryd.prog 57 = some q57 := by kernel_rfl
noncomputable def q60 : QC :=
  ((Go.Am.QC.plain
        [{ dst := Option.some 2, g := Go.Am.QG.no, op := Go.Op.move (Go.Operand.tmp 0), type := 56 },
          { dst := Option.some 3, g := Go.Am.QG.no, op := Go.Op.nilCheck (Go.Operand.tmp 2), type := 0 },
          { dst := Option.some 4, g := Go.Am.QG.no, op := Go.Op.fieldAddr 58 (Go.Operand.tmp 3) 0, type := 0 },
          { dst := Option.some 5, g := Go.Am.QG.no, op := Go.Op.load 56 (Go.Operand.tmp 4), type := 56 },
          { dst := Option.some 6, g := Go.Am.QG.no,
            op := Go.Op.binOp Go.BinOp.eql 56 (Go.Operand.tmp 5) (Go.Operand.const (Go.Value.pointer Option.none)) 56,
            type := 4 }]).seq
    (Go.Am.QC.cond (Go.Operand.tmp 6)
      (Go.Am.QC.plain
        [{ dst := Option.some 7, g := Go.Am.QG.no, op := Go.Op.move (Go.Operand.tmp 0), type := 56 },
          { dst := Option.some 8, g := Go.Am.QG.no, op := Go.Op.move (Go.Operand.tmp 0), type := 56 },
          { dst := Option.some 9, g := Go.Am.QG.no, op := Go.Op.convert 56 95 (Go.Operand.tmp 8), type := 95 },
          { dst := Option.some 10, g := Go.Am.QG.no,
            op :=
              Go.Op.call
                { callee := Go.Callee.value (Go.Operand.func 68), args := { toList := [Go.Operand.tmp 9] },
                  argTypes := { toList := [95] } },
            type := 95 },
          { dst := Option.some 11, g := Go.Am.QG.no, op := Go.Op.convert 95 56 (Go.Operand.tmp 10), type := 56 },
          { dst := Option.some 12, g := Go.Am.QG.no, op := Go.Op.nilCheck (Go.Operand.tmp 7), type := 0 },
          { dst := Option.some 13, g := Go.Am.QG.no, op := Go.Op.fieldAddr 58 (Go.Operand.tmp 12) 0, type := 0 },
          { dst := Option.none, g := Go.Am.QG.no, op := Go.Op.store 56 (Go.Operand.tmp 13) (Go.Operand.tmp 11),
            type := 0 }])
      ((Go.Am.QC.plain
            [{ dst := Option.some 14, g := Go.Am.QG.no, op := Go.Op.move (Go.Operand.tmp 0), type := 56 },
              { dst := Option.some 15, g := Go.Am.QG.no, op := Go.Op.nilCheck (Go.Operand.tmp 14), type := 0 },
              { dst := Option.some 16, g := Go.Am.QG.no, op := Go.Op.fieldAddr 58 (Go.Operand.tmp 15) 0, type := 0 },
              { dst := Option.some 17, g := Go.Am.QG.no, op := Go.Op.load 56 (Go.Operand.tmp 16), type := 56 },
              { dst := Option.some 18, g := Go.Am.QG.no, op := Go.Op.move (Go.Operand.tmp 0), type := 56 },
              { dst := Option.some 19, g := Go.Am.QG.no,
                op := Go.Op.binOp Go.BinOp.neq 56 (Go.Operand.tmp 17) (Go.Operand.tmp 18) 56, type := 4 }]).seq
        (Go.Am.QC.cond (Go.Operand.tmp 19) Go.Am.QC.bad Go.Am.QC.skip))))
theorem q60_ok : bodyComp Tryd.prog 60 = some q60 := by kernel_rfl
noncomputable def q61 : QC :=
  ((Go.Am.QC.plain [{ dst := Option.some 3, g := Go.Am.QG.no, op := Go.Op.box 27 (Go.Operand.tmp 1), type := 0 }]).seq
    ((Go.Am.QC.plain
          [{ dst := Option.some 4, g := Go.Am.QG.no, op := Go.Op.move (Go.Operand.tmp 0), type := 77 },
            { dst := Option.some 5, g := Go.Am.QG.no, op := Go.Op.nilCheck (Go.Operand.tmp 4), type := 0 },
            { dst := Option.some 6, g := Go.Am.QG.no, op := Go.Op.fieldAddr 60 (Go.Operand.tmp 5) 0, type := 0 },
            { dst := Option.some 7, g := Go.Am.QG.no,
              op :=
                Go.Op.call
                  { callee := Go.Callee.value (Go.Operand.func 69),
                    args :=
                      { toList := [Go.Operand.tmp 6, Go.Operand.const (Go.Value.int Go.IntKind.u8 (Int.ofNat 40))] },
                    argTypes := { toList := [58, 5] } },
              type := 79 }]).seq
      ((Go.Am.QC.plain
            [{ dst := Option.some 8, g := Go.Am.QG.no, op := Go.Op.move (Go.Operand.tmp 0), type := 77 },
              { dst := Option.some 9, g := Go.Am.QG.no, op := Go.Op.load 27 (Go.Operand.tmp 3), type := 27 },
              { dst := Option.some 10, g := Go.Am.QG.no,
                op :=
                  Go.Op.call
                    { callee := Go.Callee.value (Go.Operand.func 30),
                      args := { toList := [Go.Operand.tmp 8, Go.Operand.tmp 9] }, argTypes := { toList := [77, 27] } },
                type := 0 }]).seq
        (Go.Am.QC.plain
          [{ dst := Option.some 11, g := Go.Am.QG.no, op := Go.Op.move (Go.Operand.tmp 0), type := 77 },
            { dst := Option.some 12, g := Go.Am.QG.no, op := Go.Op.nilCheck (Go.Operand.tmp 11), type := 0 },
            { dst := Option.some 13, g := Go.Am.QG.no, op := Go.Op.fieldAddr 60 (Go.Operand.tmp 12) 0, type := 0 },
            { dst := Option.some 14, g := Go.Am.QG.no,
              op :=
                Go.Op.call
                  { callee := Go.Callee.value (Go.Operand.func 69),
                    args :=
                      { toList := [Go.Operand.tmp 13, Go.Operand.const (Go.Value.int Go.IntKind.u8 (Int.ofNat 41))] },
                    argTypes := { toList := [58, 5] } },
              type := 79 }]))))
theorem q61_ok : bodyComp Tryd.prog 61 = some q61 := by kernel_rfl
noncomputable def q63 : QC :=
  ((Go.Am.QC.plain
        [{ dst := Option.some 2, g := Go.Am.QG.no,
            op := Go.Op.assign (Go.Operand.const (Go.Value.int Go.IntKind.i64 (Int.ofNat 0))), type := 3 }]).seq
    ((Go.Am.QC.plain
          [{ dst := Option.some 3, g := Go.Am.QG.no,
              op := Go.Op.assign (Go.Operand.const (Go.Value.int Go.IntKind.i64 (Int.ofNat 0))), type := 3 }]).seq
      (((Go.Am.QC.plain
                [{ dst := Option.some 5, g := Go.Am.QG.no, op := Go.Op.move (Go.Operand.tmp 0), type := 65 },
                  { dst := Option.some 6, g := Go.Am.QG.no,
                    op :=
                      Go.Op.call
                        { callee := Go.Callee.value (Go.Operand.func 64), args := { toList := [Go.Operand.tmp 5] },
                          argTypes := { toList := [65] } },
                    type := 3 },
                  { dst := Option.some 4, g := Go.Am.QG.no, op := Go.Op.assign (Go.Operand.tmp 6), type := 3 }]).seq
            (Go.Am.QC.block 0
              (((Go.Am.QC.plain
                          [{ dst := Option.some 7, g := Go.Am.QG.no, op := Go.Op.move (Go.Operand.tmp 4), type := 3 },
                            { dst := Option.some 8, g := Go.Am.QG.no,
                              op :=
                                Go.Op.binOp Go.BinOp.neq 3 (Go.Operand.tmp 7)
                                  (Go.Operand.const (Go.Value.int Go.IntKind.i64 (Int.ofNat 0))) 3,
                              type := 4 }]).seq
                      (Go.Am.QC.cond (Go.Operand.tmp 8) Go.Am.QC.skip (Go.Am.QC.exit 0))).seq
                  ((Go.Am.QC.block 1
                        (Go.Am.QC.plain
                          [{ dst := Option.some 11, g := Go.Am.QG.no, op := Go.Op.move (Go.Operand.tmp 3), type := 3 },
                            { dst := Option.some 12, g := Go.Am.QG.no, op := Go.Op.move (Go.Operand.tmp 4), type := 3 },
                            { dst := Option.some 13, g := Go.Am.QG.no,
                              op := Go.Op.binOp Go.BinOp.or 3 (Go.Operand.tmp 11) (Go.Operand.tmp 12) 3, type := 3 },
                            { dst := Option.some 3, g := Go.Am.QG.no, op := Go.Op.assign (Go.Operand.tmp 13),
                              type := 3 }])).seq
                    (Go.Am.QC.plain
                      [{ dst := Option.some 9, g := Go.Am.QG.no, op := Go.Op.move (Go.Operand.tmp 0), type := 65 },
                        { dst := Option.some 10, g := Go.Am.QG.no,
                          op :=
                            Go.Op.call
                              { callee := Go.Callee.value (Go.Operand.func 64),
                                args := { toList := [Go.Operand.tmp 9] }, argTypes := { toList := [65] } },
                          type := 3 },
                        { dst := Option.some 4, g := Go.Am.QG.no, op := Go.Op.assign (Go.Operand.tmp 10),
                          type := 3 }]))).loop)).seq
        (((Go.Am.QC.plain
                  [{ dst := Option.some 14, g := Go.Am.QG.no, op := Go.Op.move (Go.Operand.tmp 3), type := 3 },
                    { dst := Option.some 15, g := Go.Am.QG.no,
                      op :=
                        Go.Op.binOp Go.BinOp.eql 3 (Go.Operand.tmp 14)
                          (Go.Operand.const (Go.Value.int Go.IntKind.i64 (Int.ofNat 0))) 3,
                      type := 4 },
                    { dst := Option.some 16, g := Go.Am.QG.no, op := Go.Op.move (Go.Operand.tmp 15), type := 4 },
                    { dst := Option.some 17, g := Go.Am.QG.at 16 Bool.false, op := Go.Op.move (Go.Operand.tmp 0),
                      type := 65 },
                    { dst := Option.some 18, g := Go.Am.QG.at 16 Bool.false,
                      op :=
                        Go.Op.call
                          { callee := Go.Callee.value (Go.Operand.func 50),
                            args :=
                              {
                                toList :=
                                  [Go.Operand.tmp 17, Go.Operand.const (Go.Value.int Go.IntKind.u8 (Int.ofNat 93))] },
                            argTypes := { toList := [65, 5] } },
                      type := 4 },
                    { dst := Option.some 19, g := Go.Am.QG.at 16 Bool.false,
                      op := Go.Op.unOp Go.UnOp.not 4 (Go.Operand.tmp 18), type := 4 },
                    { dst := Option.some 20, g := Go.Am.QG.no,
                      op :=
                        Go.Op.pick (Go.Operand.tmp 16) (Go.Operand.const (Go.Value.bool Bool.true)) (Go.Operand.tmp 19),
                      type := 4 }]).seq
              (Go.Am.QC.cond (Go.Operand.tmp 20)
                ((Go.Am.QC.plain
                      [{ dst := Option.some 2, g := Go.Am.QG.no,
                          op := Go.Op.assign (Go.Operand.const (Go.Value.int Go.IntKind.i64 (Int.ofNat 0))),
                          type := 3 }]).seq
                  Go.Am.QC.ret)
                Go.Am.QC.skip)).seq
          ((Go.Am.QC.plain
                [{ dst := Option.some 21, g := Go.Am.QG.no, op := Go.Op.move (Go.Operand.tmp 3), type := 3 },
                  { dst := Option.some 2, g := Go.Am.QG.no, op := Go.Op.assign (Go.Operand.tmp 21), type := 3 }]).seq
            Go.Am.QC.ret)))))
theorem q63_ok : bodyComp Tryd.prog 63 = some q63 := by kernel_rfl
noncomputable def q64 : QC :=
  ((Go.Am.QC.plain
        [{ dst := Option.some 2, g := Go.Am.QG.no,
            op := Go.Op.assign (Go.Operand.const (Go.Value.int Go.IntKind.i64 (Int.ofNat 0))), type := 3 }]).seq
    (((Go.Am.QC.plain
              [{ dst := Option.some 4, g := Go.Am.QG.no, op := Go.Op.move (Go.Operand.tmp 0), type := 65 },
                { dst := Option.some 5, g := Go.Am.QG.no, op := Go.Op.nilCheck (Go.Operand.tmp 4), type := 0 },
                { dst := Option.some 6, g := Go.Am.QG.no, op := Go.Op.fieldAddr 70 (Go.Operand.tmp 5) 1, type := 0 },
                { dst := Option.some 7, g := Go.Am.QG.no, op := Go.Op.load 3 (Go.Operand.tmp 6), type := 3 },
                { dst := Option.some 8, g := Go.Am.QG.no, op := Go.Op.move (Go.Operand.tmp 0), type := 65 },
                { dst := Option.some 9, g := Go.Am.QG.no, op := Go.Op.nilCheck (Go.Operand.tmp 8), type := 0 },
                { dst := Option.some 10, g := Go.Am.QG.no, op := Go.Op.fieldAddr 70 (Go.Operand.tmp 9) 0, type := 0 },
                { dst := Option.some 11, g := Go.Am.QG.no, op := Go.Op.load 9 (Go.Operand.tmp 10), type := 9 },
                { dst := Option.some 12, g := Go.Am.QG.no,
                  op :=
                    Go.Op.call
                      { callee := Go.Callee.builtin Go.Builtin.len, args := { toList := [Go.Operand.tmp 11] },
                        argTypes := { toList := [9] } },
                  type := 3 },
                { dst := Option.some 13, g := Go.Am.QG.no,
                  op := Go.Op.binOp Go.BinOp.eql 3 (Go.Operand.tmp 7) (Go.Operand.tmp 12) 3, type := 4 }]).seq
          (Go.Am.QC.cond (Go.Operand.tmp 13)
            ((Go.Am.QC.plain
                  [{ dst := Option.some 2, g := Go.Am.QG.no,
                      op := Go.Op.assign (Go.Operand.const (Go.Value.int Go.IntKind.i64 (Int.ofNat 0))),
                      type := 3 }]).seq
              Go.Am.QC.ret)
            Go.Am.QC.skip)).seq
      ((Go.Am.QC.plain
            [{ dst := Option.some 14, g := Go.Am.QG.no, op := Go.Op.move (Go.Operand.tmp 0), type := 65 },
              { dst := Option.some 15, g := Go.Am.QG.no, op := Go.Op.nilCheck (Go.Operand.tmp 14), type := 0 },
              { dst := Option.some 16, g := Go.Am.QG.no, op := Go.Op.fieldAddr 70 (Go.Operand.tmp 15) 0, type := 0 },
              { dst := Option.some 17, g := Go.Am.QG.no, op := Go.Op.load 9 (Go.Operand.tmp 16), type := 9 },
              { dst := Option.some 18, g := Go.Am.QG.no, op := Go.Op.move (Go.Operand.tmp 0), type := 65 },
              { dst := Option.some 19, g := Go.Am.QG.no, op := Go.Op.nilCheck (Go.Operand.tmp 18), type := 0 },
              { dst := Option.some 20, g := Go.Am.QG.no, op := Go.Op.fieldAddr 70 (Go.Operand.tmp 19) 1, type := 0 },
              { dst := Option.some 21, g := Go.Am.QG.no, op := Go.Op.load 3 (Go.Operand.tmp 20), type := 3 },
              { dst := Option.some 22, g := Go.Am.QG.no, op := Go.Op.index 9 (Go.Operand.tmp 17) (Go.Operand.tmp 21),
                type := 5 },
              { dst := Option.some 23, g := Go.Am.QG.no,
                op :=
                  Go.Op.call
                    { callee := Go.Callee.value (Go.Operand.func 71),
                      args :=
                        {
                          toList :=
                            [Go.Operand.const
                                (Go.Value.string
                                  {
                                    data :=
                                      {
                                        toList :=
                                          [{ toBitVec := { toFin := ⟨119, Nat.mod_lt 119 (BitVec.ofNat._proof_1 8)⟩ } },
                                            { toBitVec := { toFin := ⟨98, Nat.mod_lt 98 (BitVec.ofNat._proof_1 8)⟩ } },
                                            { toBitVec := { toFin := ⟨99, Nat.mod_lt 99 (BitVec.ofNat._proof_1 8)⟩ } },
                                            {
                                              toBitVec :=
                                                { toFin := ⟨102, Nat.mod_lt 102 (BitVec.ofNat._proof_1 8)⟩ } },
                                            {
                                              toBitVec :=
                                                { toFin := ⟨116, Nat.mod_lt 116 (BitVec.ofNat._proof_1 8)⟩ } }] } }),
                              Go.Operand.tmp 22] },
                      argTypes := { toList := [9, 5] } },
                type := 3 },
              { dst := Option.some 3, g := Go.Am.QG.no, op := Go.Op.assign (Go.Operand.tmp 23), type := 3 }]).seq
        (((Go.Am.QC.plain
                  [{ dst := Option.some 24, g := Go.Am.QG.no, op := Go.Op.move (Go.Operand.tmp 3), type := 3 },
                    { dst := Option.some 25, g := Go.Am.QG.no,
                      op :=
                        Go.Op.binOp Go.BinOp.lss 3 (Go.Operand.tmp 24)
                          (Go.Operand.const (Go.Value.int Go.IntKind.i64 (Int.ofNat 0))) 3,
                      type := 4 }]).seq
              (Go.Am.QC.cond (Go.Operand.tmp 25)
                ((Go.Am.QC.plain
                      [{ dst := Option.some 2, g := Go.Am.QG.no,
                          op := Go.Op.assign (Go.Operand.const (Go.Value.int Go.IntKind.i64 (Int.ofNat 0))),
                          type := 3 }]).seq
                  Go.Am.QC.ret)
                Go.Am.QC.skip)).seq
          ((Go.Am.QC.plain
                [{ dst := Option.some 26, g := Go.Am.QG.no, op := Go.Op.move (Go.Operand.tmp 0), type := 65 },
                  { dst := Option.some 27, g := Go.Am.QG.no, op := Go.Op.nilCheck (Go.Operand.tmp 26), type := 0 },
                  { dst := Option.some 28, g := Go.Am.QG.no, op := Go.Op.fieldAddr 70 (Go.Operand.tmp 27) 1,
                    type := 0 },
                  { dst := Option.some 29, g := Go.Am.QG.no, op := Go.Op.load 3 (Go.Operand.tmp 28), type := 3 },
                  { dst := Option.some 30, g := Go.Am.QG.no,
                    op :=
                      Go.Op.binOp Go.BinOp.add 3 (Go.Operand.tmp 29)
                        (Go.Operand.const (Go.Value.int Go.IntKind.i64 (Int.ofNat 1))) 3,
                    type := 3 },
                  { dst := Option.some 31, g := Go.Am.QG.no, op := Go.Op.nilCheck (Go.Operand.tmp 26), type := 0 },
                  { dst := Option.some 32, g := Go.Am.QG.no, op := Go.Op.fieldAddr 70 (Go.Operand.tmp 31) 1,
                    type := 0 },
                  { dst := Option.none, g := Go.Am.QG.no, op := Go.Op.store 3 (Go.Operand.tmp 32) (Go.Operand.tmp 30),
                    type := 0 }]).seq
            ((Go.Am.QC.plain
                  [{ dst := Option.some 33, g := Go.Am.QG.no, op := Go.Op.move (Go.Operand.tmp 3), type := 3 },
                    { dst := Option.some 34, g := Go.Am.QG.no,
                      op :=
                        Go.Op.binOp Go.BinOp.shl 3 (Go.Operand.const (Go.Value.int Go.IntKind.i64 (Int.ofNat 1)))
                          (Go.Operand.tmp 33) 3,
                      type := 3 },
                    { dst := Option.some 2, g := Go.Am.QG.no, op := Go.Op.assign (Go.Operand.tmp 34), type := 3 }]).seq
              Go.Am.QC.ret))))))
theorem q64_ok : bodyComp Tryd.prog 64 = some q64 := by kernel_rfl
noncomputable def q65 : QC :=
  ((Go.Am.QC.plain [{ dst := Option.some 3, g := Go.Am.QG.no, op := Go.Op.box 27 (Go.Operand.tmp 1), type := 0 }]).seq
    ((Go.Am.QC.plain
          [{ dst := Option.some 5, g := Go.Am.QG.no, op := Go.Op.move (Go.Operand.tmp 0), type := 65 },
            { dst := Option.some 6, g := Go.Am.QG.no,
              op :=
                Go.Op.call
                  { callee := Go.Callee.value (Go.Operand.func 37), args := { toList := [Go.Operand.tmp 5] },
                    argTypes := { toList := [65] } },
              type := 71 },
            { dst := Option.some 4, g := Go.Am.QG.no, op := Go.Op.assign (Go.Operand.tmp 6), type := 71 }]).seq
      (Go.Am.QC.free
        [{ dst := Option.some 7, g := Go.Am.QG.no, op := Go.Op.move (Go.Operand.tmp 4), type := 71 },
          { dst := Option.some 8, g := Go.Am.QG.no, op := Go.Op.nilCheck (Go.Operand.tmp 7), type := 0 },
          { dst := Option.some 9, g := Go.Am.QG.no, op := Go.Op.fieldAddr 87 (Go.Operand.tmp 8) 1, type := 0 },
          { dst := Option.some 10, g := Go.Am.QG.no, op := Go.Op.load 25 (Go.Operand.tmp 9), type := 25 },
          { dst := Option.some 11, g := Go.Am.QG.no, op := Go.Op.load 27 (Go.Operand.tmp 3), type := 27 },
          { dst := Option.some 12, g := Go.Am.QG.no,
            op :=
              Go.Op.call
                { callee := Go.Callee.builtin Go.Builtin.len, args := { toList := [Go.Operand.tmp 10] },
                  argTypes := { toList := [25] } },
            type := 3 },
          { dst := Option.some 13, g := Go.Am.QG.no,
            op :=
              Go.Op.buildSlice 25 1
                {
                  toList :=
                    [(0,
                        Go.Operand.const
                          (Go.Value.agg
                            {
                              toList :=
                                [Go.Value.int Go.IntKind.i64 (Int.ofNat 0), Go.Value.int Go.IntKind.i64 (Int.ofNat 0),
                                  Go.Value.int Go.IntKind.i64 (Int.ofNat 0), Go.Value.int Go.IntKind.i64 (Int.ofNat 0),
                                  Go.Value.slice Option.none 0 0] }))] },
            type := 25 },
          { dst := Option.some 14, g := Go.Am.QG.no,
            op :=
              Go.Op.call
                { callee := Go.Callee.builtin Go.Builtin.append,
                  args := { toList := [Go.Operand.tmp 10, Go.Operand.tmp 13] }, argTypes := { toList := [25, 25] } },
            type := 25 },
          { dst := Option.some 15, g := Go.Am.QG.no, op := Go.Op.indexAddr 25 (Go.Operand.tmp 14) (Go.Operand.tmp 12),
            type := 0 },
          { dst := Option.none, g := Go.Am.QG.no, op := Go.Op.store 27 (Go.Operand.tmp 15) (Go.Operand.tmp 11),
            type := 0 },
          { dst := Option.some 16, g := Go.Am.QG.no, op := Go.Op.nilCheck (Go.Operand.tmp 7), type := 0 },
          { dst := Option.some 17, g := Go.Am.QG.no, op := Go.Op.fieldAddr 87 (Go.Operand.tmp 16) 1, type := 0 }]
        25 (Go.Operand.tmp 17) (Go.Operand.tmp 14))))
theorem q65_ok : bodyComp Tryd.prog 65 = some q65 := by kernel_rfl
noncomputable def q66 : QC :=
  ((Go.Am.QC.plain
        [{ dst := Option.some 6, g := Go.Am.QG.no, op := Go.Op.assign (Go.Operand.const (Go.Value.bool Bool.false)),
            type := 4 }]).seq
    (((Go.Am.QC.plain
              [{ dst := Option.some 8, g := Go.Am.QG.no, op := Go.Op.move (Go.Operand.tmp 0), type := 65 },
                { dst := Option.some 9, g := Go.Am.QG.no, op := Go.Op.nilCheck (Go.Operand.tmp 8), type := 0 },
                { dst := Option.some 10, g := Go.Am.QG.no, op := Go.Op.fieldAddr 70 (Go.Operand.tmp 9) 1, type := 0 },
                { dst := Option.some 11, g := Go.Am.QG.no, op := Go.Op.load 3 (Go.Operand.tmp 10), type := 3 },
                { dst := Option.some 12, g := Go.Am.QG.no, op := Go.Op.move (Go.Operand.tmp 0), type := 65 },
                { dst := Option.some 13, g := Go.Am.QG.no, op := Go.Op.nilCheck (Go.Operand.tmp 12), type := 0 },
                { dst := Option.some 14, g := Go.Am.QG.no, op := Go.Op.fieldAddr 70 (Go.Operand.tmp 13) 0, type := 0 },
                { dst := Option.some 15, g := Go.Am.QG.no, op := Go.Op.load 9 (Go.Operand.tmp 14), type := 9 },
                { dst := Option.some 16, g := Go.Am.QG.no,
                  op :=
                    Go.Op.call
                      { callee := Go.Callee.builtin Go.Builtin.len, args := { toList := [Go.Operand.tmp 15] },
                        argTypes := { toList := [9] } },
                  type := 3 },
                { dst := Option.some 17, g := Go.Am.QG.no,
                  op := Go.Op.binOp Go.BinOp.eql 3 (Go.Operand.tmp 11) (Go.Operand.tmp 16) 3, type := 4 }]).seq
          (Go.Am.QC.cond (Go.Operand.tmp 17)
            ((Go.Am.QC.plain
                  [{ dst := Option.some 6, g := Go.Am.QG.no,
                      op := Go.Op.assign (Go.Operand.const (Go.Value.bool Bool.false)), type := 4 }]).seq
              Go.Am.QC.ret)
            Go.Am.QC.skip)).seq
      ((Go.Am.QC.plain
            [{ dst := Option.some 18, g := Go.Am.QG.no, op := Go.Op.move (Go.Operand.tmp 0), type := 65 },
              { dst := Option.some 19, g := Go.Am.QG.no, op := Go.Op.nilCheck (Go.Operand.tmp 18), type := 0 },
              { dst := Option.some 20, g := Go.Am.QG.no, op := Go.Op.fieldAddr 70 (Go.Operand.tmp 19) 0, type := 0 },
              { dst := Option.some 21, g := Go.Am.QG.no, op := Go.Op.load 9 (Go.Operand.tmp 20), type := 9 },
              { dst := Option.some 22, g := Go.Am.QG.no, op := Go.Op.move (Go.Operand.tmp 0), type := 65 },
              { dst := Option.some 23, g := Go.Am.QG.no, op := Go.Op.nilCheck (Go.Operand.tmp 22), type := 0 },
              { dst := Option.some 24, g := Go.Am.QG.no, op := Go.Op.fieldAddr 70 (Go.Operand.tmp 23) 1, type := 0 },
              { dst := Option.some 25, g := Go.Am.QG.no, op := Go.Op.load 3 (Go.Operand.tmp 24), type := 3 },
              { dst := Option.some 26, g := Go.Am.QG.no, op := Go.Op.index 9 (Go.Operand.tmp 21) (Go.Operand.tmp 25),
                type := 5 },
              { dst := Option.some 7, g := Go.Am.QG.no, op := Go.Op.assign (Go.Operand.tmp 26), type := 5 }]).seq
        (((Go.Am.QC.plain
                  [{ dst := Option.some 27, g := Go.Am.QG.no, op := Go.Op.move (Go.Operand.tmp 7), type := 5 },
                    { dst := Option.some 28, g := Go.Am.QG.no,
                      op :=
                        Go.Op.binOp Go.BinOp.lss 5 (Go.Operand.tmp 27)
                          (Go.Operand.const (Go.Value.int Go.IntKind.u8 (Int.ofNat 48))) 5,
                      type := 4 },
                    { dst := Option.some 29, g := Go.Am.QG.no, op := Go.Op.move (Go.Operand.tmp 28), type := 4 },
                    { dst := Option.some 30, g := Go.Am.QG.at 29 Bool.false, op := Go.Op.move (Go.Operand.tmp 7),
                      type := 5 },
                    { dst := Option.some 31, g := Go.Am.QG.at 29 Bool.false,
                      op :=
                        Go.Op.binOp Go.BinOp.gtr 5 (Go.Operand.tmp 30)
                          (Go.Operand.const (Go.Value.int Go.IntKind.u8 (Int.ofNat 57))) 5,
                      type := 4 },
                    { dst := Option.some 32, g := Go.Am.QG.no,
                      op :=
                        Go.Op.pick (Go.Operand.tmp 29) (Go.Operand.const (Go.Value.bool Bool.true)) (Go.Operand.tmp 31),
                      type := 4 }]).seq
              (Go.Am.QC.cond (Go.Operand.tmp 32)
                ((Go.Am.QC.plain
                      [{ dst := Option.some 33, g := Go.Am.QG.no, op := Go.Op.move (Go.Operand.tmp 0), type := 65 },
                        { dst := Option.some 34, g := Go.Am.QG.no, op := Go.Op.move (Go.Operand.tmp 2), type := 3 },
                        { dst := Option.some 35, g := Go.Am.QG.no, op := Go.Op.nilCheck (Go.Operand.tmp 33),
                          type := 0 },
                        { dst := Option.some 36, g := Go.Am.QG.no, op := Go.Op.fieldAddr 70 (Go.Operand.tmp 35) 1,
                          type := 0 },
                        { dst := Option.none, g := Go.Am.QG.no,
                          op := Go.Op.store 3 (Go.Operand.tmp 36) (Go.Operand.tmp 34), type := 0 }]).seq
                  ((Go.Am.QC.plain
                        [{ dst := Option.some 6, g := Go.Am.QG.no,
                            op := Go.Op.assign (Go.Operand.const (Go.Value.bool Bool.false)), type := 4 }]).seq
                    Go.Am.QC.ret))
                Go.Am.QC.skip)).seq
          ((Go.Am.QC.plain
                [{ dst := Option.some 37, g := Go.Am.QG.no, op := Go.Op.move (Go.Operand.tmp 1), type := 94 },
                  { dst := Option.some 38, g := Go.Am.QG.no, op := Go.Op.move (Go.Operand.tmp 7), type := 5 },
                  { dst := Option.some 39, g := Go.Am.QG.no,
                    op :=
                      Go.Op.binOp Go.BinOp.sub 5 (Go.Operand.tmp 38)
                        (Go.Operand.const (Go.Value.int Go.IntKind.u8 (Int.ofNat 48))) 5,
                    type := 5 },
                  { dst := Option.some 40, g := Go.Am.QG.no, op := Go.Op.convert 5 3 (Go.Operand.tmp 39), type := 3 },
                  { dst := Option.some 41, g := Go.Am.QG.no, op := Go.Op.nilCheck (Go.Operand.tmp 37), type := 0 },
                  { dst := Option.none, g := Go.Am.QG.no, op := Go.Op.store 3 (Go.Operand.tmp 41) (Go.Operand.tmp 40),
                    type := 0 }]).seq
            ((Go.Am.QC.plain
                  [{ dst := Option.some 42, g := Go.Am.QG.no, op := Go.Op.move (Go.Operand.tmp 0), type := 65 },
                    { dst := Option.some 43, g := Go.Am.QG.no, op := Go.Op.nilCheck (Go.Operand.tmp 42), type := 0 },
                    { dst := Option.some 44, g := Go.Am.QG.no, op := Go.Op.fieldAddr 70 (Go.Operand.tmp 43) 1,
                      type := 0 },
                    { dst := Option.some 45, g := Go.Am.QG.no, op := Go.Op.load 3 (Go.Operand.tmp 44), type := 3 },
                    { dst := Option.some 46, g := Go.Am.QG.no,
                      op :=
                        Go.Op.binOp Go.BinOp.add 3 (Go.Operand.tmp 45)
                          (Go.Operand.const (Go.Value.int Go.IntKind.i64 (Int.ofNat 1))) 3,
                      type := 3 },
                    { dst := Option.some 47, g := Go.Am.QG.no, op := Go.Op.nilCheck (Go.Operand.tmp 42), type := 0 },
                    { dst := Option.some 48, g := Go.Am.QG.no, op := Go.Op.fieldAddr 70 (Go.Operand.tmp 47) 1,
                      type := 0 },
                    { dst := Option.none, g := Go.Am.QG.no, op := Go.Op.store 3 (Go.Operand.tmp 48) (Go.Operand.tmp 46),
                      type := 0 }]).seq
              ((Go.Am.QC.plain
                    [{ dst := Option.some 6, g := Go.Am.QG.no,
                        op := Go.Op.assign (Go.Operand.const (Go.Value.bool Bool.true)), type := 4 }]).seq
                Go.Am.QC.ret)))))))
theorem q66_ok : bodyComp Tryd.prog 66 = some q66 := by kernel_rfl
noncomputable def q69 : QC :=
  ((Go.Am.QC.plain
        [{ dst := Option.some 4, g := Go.Am.QG.no, op := Go.Op.assign (Go.Operand.const Go.Value.nilIface),
            type := 79 }]).seq
    ((Go.Am.QC.plain
          [{ dst := Option.some 5, g := Go.Am.QG.no, op := Go.Op.move (Go.Operand.tmp 0), type := 56 },
            { dst := Option.some 6, g := Go.Am.QG.no,
              op :=
                Go.Op.call
                  { callee := Go.Callee.value (Go.Operand.func 60), args := { toList := [Go.Operand.tmp 5] },
                    argTypes := { toList := [56] } },
              type := 0 }]).seq
      ((Go.Am.QC.plain
            [{ dst := Option.some 7, g := Go.Am.QG.no, op := Go.Op.move (Go.Operand.tmp 0), type := 56 },
              { dst := Option.some 8, g := Go.Am.QG.no, op := Go.Op.move (Go.Operand.tmp 0), type := 56 },
              { dst := Option.some 9, g := Go.Am.QG.no, op := Go.Op.nilCheck (Go.Operand.tmp 8), type := 0 },
              { dst := Option.some 10, g := Go.Am.QG.no, op := Go.Op.fieldAddr 58 (Go.Operand.tmp 9) 1, type := 0 },
              { dst := Option.some 11, g := Go.Am.QG.no, op := Go.Op.load 37 (Go.Operand.tmp 10), type := 37 },
              { dst := Option.some 12, g := Go.Am.QG.no, op := Go.Op.move (Go.Operand.tmp 1), type := 5 },
              { dst := Option.some 13, g := Go.Am.QG.no,
                op := Go.Op.buildSlice 37 1 { toList := [(0, Go.Operand.tmp 12)] }, type := 37 },
              { dst := Option.some 14, g := Go.Am.QG.no,
                op :=
                  Go.Op.call
                    { callee := Go.Callee.builtin Go.Builtin.append,
                      args := { toList := [Go.Operand.tmp 11, Go.Operand.tmp 13] },
                      argTypes := { toList := [37, 37] } },
                type := 37 },
              { dst := Option.some 15, g := Go.Am.QG.no, op := Go.Op.nilCheck (Go.Operand.tmp 7), type := 0 },
              { dst := Option.some 16, g := Go.Am.QG.no, op := Go.Op.fieldAddr 58 (Go.Operand.tmp 15) 1, type := 0 },
              { dst := Option.none, g := Go.Am.QG.no, op := Go.Op.store 37 (Go.Operand.tmp 16) (Go.Operand.tmp 14),
                type := 0 }]).seq
        ((Go.Am.QC.plain
              [{ dst := Option.some 4, g := Go.Am.QG.no, op := Go.Op.assign (Go.Operand.const Go.Value.nilIface),
                  type := 79 }]).seq
          Go.Am.QC.ret))))
theorem q69_ok : bodyComp Tryd.prog 69 = some q69 := by kernel_rfl
noncomputable def q71 : QC :=
  ((Go.Am.QC.plain
        [{ dst := Option.some 4, g := Go.Am.QG.no,
            op := Go.Op.assign (Go.Operand.const (Go.Value.int Go.IntKind.i64 (Int.ofNat 0))), type := 3 }]).seq
    ((Go.Am.QC.plain
          [{ dst := Option.some 5, g := Go.Am.QG.no, op := Go.Op.move (Go.Operand.tmp 0), type := 9 },
            { dst := Option.some 6, g := Go.Am.QG.no, op := Go.Op.move (Go.Operand.tmp 1), type := 5 },
            { dst := Option.some 7, g := Go.Am.QG.no,
              op :=
                Go.Op.call
                  { callee := Go.Callee.value (Go.Operand.func 75),
                    args := { toList := [Go.Operand.tmp 5, Go.Operand.tmp 6] }, argTypes := { toList := [9, 5] } },
              type := 3 },
            { dst := Option.some 4, g := Go.Am.QG.no, op := Go.Op.assign (Go.Operand.tmp 7), type := 3 }]).seq
      Go.Am.QC.ret))
theorem q71_ok : bodyComp Tryd.prog 71 = some q71 := by kernel_rfl
noncomputable def q75 : QC :=
  ((Go.Am.QC.plain
        [{ dst := Option.some 4, g := Go.Am.QG.no,
            op := Go.Op.assign (Go.Operand.const (Go.Value.int Go.IntKind.i64 (Int.ofNat 0))), type := 3 }]).seq
    ((Go.Am.QC.plain
          [{ dst := Option.some 5, g := Go.Am.QG.no, op := Go.Op.move (Go.Operand.tmp 0), type := 9 },
            { dst := Option.some 6, g := Go.Am.QG.no, op := Go.Op.move (Go.Operand.tmp 1), type := 5 },
            { dst := Option.some 7, g := Go.Am.QG.no,
              op :=
                Go.Op.call
                  { callee := Go.Callee.value (Go.Operand.func 83),
                    args := { toList := [Go.Operand.tmp 5, Go.Operand.tmp 6] }, argTypes := { toList := [9, 5] } },
              type := 3 },
            { dst := Option.some 4, g := Go.Am.QG.no, op := Go.Op.assign (Go.Operand.tmp 7), type := 3 }]).seq
      Go.Am.QC.ret))
theorem q75_ok : bodyComp Tryd.prog 75 = some q75 := by kernel_rfl
noncomputable def qts : Tr QC := qtab [(13, q13), (16, q16), (18, q18), (19, q19), (21, q21), (30, q30), (31, q31), (34, q34), (35, q35), (36, q36), (37, q37), (38, q38), (42, q42), (43, q43), (44, q44), (45, q45), (46, q46), (47, q47), (48, q48), (49, q49), (50, q50), (51, q51), (52, q52), (53, q53), (54, q54), (55, q55), (56, q56), (57, q57), (60, q60), (61, q61), (63, q63), (64, q64), (65, q65), (66, q66), (69, q69), (71, q71), (75, q75)]
theorem qokS : QOk Tryd.prog qts := QOk.of fun p hp => by
  simp only [List.mem_cons, List.not_mem_nil, or_false] at hp
  rcases hp with rfl | rfl | rfl | rfl | rfl | rfl | rfl | rfl | rfl | rfl | rfl | rfl | rfl | rfl | rfl | rfl | rfl | rfl | rfl | rfl | rfl | rfl | rfl | rfl | rfl | rfl | rfl | rfl | rfl | rfl | rfl | rfl | rfl | rfl | rfl | rfl | rfl
  · exact q13_ok
  · exact q16_ok
  · exact q18_ok
  · exact q19_ok
  · exact q21_ok
  · exact q30_ok
  · exact q31_ok
  · exact q34_ok
  · exact q35_ok
  · exact q36_ok
  · exact q37_ok
  · exact q38_ok
  · exact q42_ok
  · exact q43_ok
  · exact q44_ok
  · exact q45_ok
  · exact q46_ok
  · exact q47_ok
  · exact q48_ok
  · exact q49_ok
  · exact q50_ok
  · exact q51_ok
  · exact q52_ok
  · exact q53_ok
  · exact q54_ok
  · exact q55_ok
  · exact q56_ok
  · exact q57_ok
  · exact q60_ok
  · exact q61_ok
  · exact q63_ok
  · exact q64_ok
  · exact q65_ok
  · exact q66_ok
  · exact q69_ok
  · exact q71_ok
  · exact q75_ok
end Go.Proofs.YtlgkpnlppgihcaaDoor
