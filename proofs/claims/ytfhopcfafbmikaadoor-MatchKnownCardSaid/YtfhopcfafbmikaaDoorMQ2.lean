/-
  Proved: of these twenty texts and words whether the word is in the text's language, as milestonelaw5.MatchKnown asks it, holds whatever the argument is. Conditions: those of the given row alone (the table math/bits.deBruijn64tab starts as the program's text lays it).
-/
import Derived.Test.YtfhopcfafbmikaaDoorAmQ
import Derived.Test.YtfhopcfafbmikaaDoorMQ1
import Derived.KernelRfl
import Derived.Test.YtfhopcfafbmikaaDoorProg
open Go Go.Am Go.Proofs
namespace Go.Proofs.YtfhopcfafbmikaaDoor
set_option maxRecDepth 100000
noncomputable def q16 : QC :=
  ((Go.Am.QC.plain
        [{ dst := Option.some 2, g := Go.Am.QG.no, op := Go.Op.box 28 (Go.Operand.tmp 0), type := 0 },
          { dst := Option.some 4, g := Go.Am.QG.no, op := Go.Op.assign (Go.Operand.const (Go.Value.bool Bool.false)),
            type := 4 }]).seq
    (((Go.Am.QC.plain
              [{ dst := Option.some 5, g := Go.Am.QG.no, op := Go.Op.load 28 (Go.Operand.tmp 2), type := 28 },
                { dst := Option.some 6, g := Go.Am.QG.no,
                  op :=
                    Go.Op.call
                      { callee := Go.Callee.value (Go.Operand.func 30), args := { toList := [Go.Operand.tmp 5] },
                        argTypes := { toList := [28] } },
                  type := 4 },
                { dst := Option.some 7, g := Go.Am.QG.no, op := Go.Op.unOp Go.UnOp.not 4 (Go.Operand.tmp 6),
                  type := 4 },
                { dst := Option.some 8, g := Go.Am.QG.no, op := Go.Op.move (Go.Operand.tmp 7), type := 4 },
                { dst := Option.some 9, g := Go.Am.QG.at 8 Bool.false, op := Go.Op.move (Go.Operand.tmp 1),
                  type := 23 },
                { dst := Option.some 10, g := Go.Am.QG.at 8 Bool.false,
                  op :=
                    Go.Op.call
                      { callee := Go.Callee.value (Go.Operand.func 31),
                        args := { toList := [Go.Operand.tmp 9, Go.Operand.func 32] },
                        argTypes := { toList := [23, 44] } },
                  type := 4 },
                { dst := Option.some 11, g := Go.Am.QG.no,
                  op := Go.Op.pick (Go.Operand.tmp 8) (Go.Operand.const (Go.Value.bool Bool.true)) (Go.Operand.tmp 10),
                  type := 4 }]).seq
          (Go.Am.QC.cond (Go.Operand.tmp 11)
            ((Go.Am.QC.plain
                  [{ dst := Option.some 4, g := Go.Am.QG.no,
                      op := Go.Op.assign (Go.Operand.const (Go.Value.bool Bool.false)), type := 4 }]).seq
              Go.Am.QC.ret)
            Go.Am.QC.skip)).seq
      ((Go.Am.QC.plain
            [{ dst := Option.some 12, g := Go.Am.QG.no, op := Go.Op.load 28 (Go.Operand.tmp 2), type := 28 },
              { dst := Option.some 13, g := Go.Am.QG.no, op := Go.Op.move (Go.Operand.tmp 1), type := 23 },
              { dst := Option.some 14, g := Go.Am.QG.no,
                op :=
                  Go.Op.call
                    { callee := Go.Callee.builtin Go.Builtin.len, args := { toList := [Go.Operand.tmp 13] },
                      argTypes := { toList := [23] } },
                type := 3 },
              { dst := Option.some 15, g := Go.Am.QG.no,
                op :=
                  Go.Op.call
                    { callee := Go.Callee.value (Go.Operand.func 33),
                      args := { toList := [Go.Operand.tmp 12, Go.Operand.tmp 14] }, argTypes := { toList := [28, 3] } },
                type := 58 },
              { dst := Option.some 16, g := Go.Am.QG.no, op := Go.Op.move (Go.Operand.tmp 1), type := 23 },
              { dst := Option.some 17, g := Go.Am.QG.no,
                op :=
                  Go.Op.call
                    { callee := Go.Callee.value (Go.Operand.tmp 15), args := { toList := [Go.Operand.tmp 16] },
                      argTypes := { toList := [23] } },
                type := 4 },
              { dst := Option.some 4, g := Go.Am.QG.no, op := Go.Op.assign (Go.Operand.tmp 17), type := 4 }]).seq
        Go.Am.QC.ret)))
theorem q16_ok : bodyComp Tryd.prog 16 = some q16 := by kernel_rfl
noncomputable def q30 : QC :=
  ((Go.Am.QC.plain
        [{ dst := Option.some 1, g := Go.Am.QG.no, op := Go.Op.box 28 (Go.Operand.tmp 0), type := 0 },
          { dst := Option.some 2, g := Go.Am.QG.no, op := Go.Op.assign (Go.Operand.const (Go.Value.bool Bool.false)),
            type := 4 }]).seq
    (((Go.Am.QC.plain
              [{ dst := Option.some 5, g := Go.Am.QG.no, op := Go.Op.load 28 (Go.Operand.tmp 1), type := 28 },
                { dst := Option.some 6, g := Go.Am.QG.no,
                  op :=
                    Go.Op.call
                      { callee := Go.Callee.value (Go.Operand.func 42), args := { toList := [Go.Operand.tmp 5] },
                        argTypes := { toList := [28] } },
                  type := 4 },
                { dst := Option.some 7, g := Go.Am.QG.no, op := Go.Op.unOp Go.UnOp.not 4 (Go.Operand.tmp 6),
                  type := 4 }]).seq
          (Go.Am.QC.cond (Go.Operand.tmp 7)
            ((Go.Am.QC.plain
                  [{ dst := Option.some 2, g := Go.Am.QG.no,
                      op := Go.Op.assign (Go.Operand.const (Go.Value.bool Bool.false)), type := 4 }]).seq
              Go.Am.QC.ret)
            Go.Am.QC.skip)).seq
      (((Go.Am.QC.plain
                [{ dst := Option.some 8, g := Go.Am.QG.no, op := Go.Op.fieldAddr 28 (Go.Operand.tmp 1) 4, type := 0 },
                  { dst := Option.some 9, g := Go.Am.QG.no, op := Go.Op.load 26 (Go.Operand.tmp 8), type := 26 },
                  { dst := Option.some 10, g := Go.Am.QG.no,
                    op :=
                      Go.Op.call
                        { callee := Go.Callee.builtin Go.Builtin.len, args := { toList := [Go.Operand.tmp 9] },
                          argTypes := { toList := [26] } },
                    type := 3 },
                  { dst := Option.some 11, g := Go.Am.QG.no,
                    op := Go.Op.move (Go.Operand.const (Go.Value.int Go.IntKind.i64 (Int.ofNat 0))), type := 3 }]).seq
            (Go.Am.QC.block 0
              ((Go.Am.QC.plain
                      [{ dst := Option.some 12, g := Go.Am.QG.no,
                          op := Go.Op.binOp Go.BinOp.lss 3 (Go.Operand.tmp 11) (Go.Operand.tmp 10) 3, type := 0 }]).seq
                  ((Go.Am.QC.cond (Go.Operand.tmp 12) Go.Am.QC.skip (Go.Am.QC.exit 0)).seq
                    ((Go.Am.QC.block 1
                          ((Go.Am.QC.plain
                                [{ dst := Option.some 13, g := Go.Am.QG.no,
                                    op := Go.Op.indexAddr 26 (Go.Operand.tmp 9) (Go.Operand.tmp 11), type := 0 },
                                  { dst := Option.some 14, g := Go.Am.QG.no, op := Go.Op.load 28 (Go.Operand.tmp 13),
                                    type := 28 },
                                  { dst := Option.some 4, g := Go.Am.QG.no, op := Go.Op.alloc 28, type := 0 },
                                  { dst := Option.none, g := Go.Am.QG.no,
                                    op := Go.Op.store 28 (Go.Operand.tmp 4) (Go.Operand.tmp 14), type := 0 }]).seq
                            ((Go.Am.QC.plain
                                  [{ dst := Option.some 15, g := Go.Am.QG.no, op := Go.Op.load 28 (Go.Operand.tmp 4),
                                      type := 28 },
                                    { dst := Option.some 16, g := Go.Am.QG.no,
                                      op :=
                                        Go.Op.call
                                          { callee := Go.Callee.value (Go.Operand.func 30),
                                            args := { toList := [Go.Operand.tmp 15] }, argTypes := { toList := [28] } },
                                      type := 4 },
                                    { dst := Option.some 17, g := Go.Am.QG.no,
                                      op := Go.Op.unOp Go.UnOp.not 4 (Go.Operand.tmp 16), type := 4 }]).seq
                              (Go.Am.QC.cond (Go.Operand.tmp 17)
                                ((Go.Am.QC.plain
                                      [{ dst := Option.some 2, g := Go.Am.QG.no,
                                          op := Go.Op.assign (Go.Operand.const (Go.Value.bool Bool.false)),
                                          type := 4 }]).seq
                                  Go.Am.QC.ret)
                                Go.Am.QC.skip)))).seq
                      (Go.Am.QC.plain
                        [{ dst := Option.some 18, g := Go.Am.QG.no,
                            op :=
                              Go.Op.binOp Go.BinOp.add 3 (Go.Operand.tmp 11)
                                (Go.Operand.const (Go.Value.int Go.IntKind.i64 (Int.ofNat 1))) 3,
                            type := 3 },
                          { dst := Option.some 11, g := Go.Am.QG.no, op := Go.Op.move (Go.Operand.tmp 18),
                            type := 3 }])))).loop)).seq
        ((Go.Am.QC.plain
              [{ dst := Option.some 2, g := Go.Am.QG.no,
                  op := Go.Op.assign (Go.Operand.const (Go.Value.bool Bool.true)), type := 4 }]).seq
          Go.Am.QC.ret))))
theorem q30_ok : bodyComp Tryd.prog 30 = some q30 := by kernel_rfl
noncomputable def q31 : QC :=
  ((Go.Am.QC.plain
        [{ dst := Option.some 4, g := Go.Am.QG.no, op := Go.Op.assign (Go.Operand.const (Go.Value.bool Bool.false)),
            type := 4 }]).seq
    ((Go.Am.QC.plain
          [{ dst := Option.some 5, g := Go.Am.QG.no, op := Go.Op.move (Go.Operand.tmp 0), type := 23 },
            { dst := Option.some 6, g := Go.Am.QG.no, op := Go.Op.move (Go.Operand.tmp 1), type := 44 },
            { dst := Option.some 7, g := Go.Am.QG.no,
              op :=
                Go.Op.call
                  { callee := Go.Callee.value (Go.Operand.func 43),
                    args := { toList := [Go.Operand.tmp 5, Go.Operand.tmp 6] }, argTypes := { toList := [23, 44] } },
              type := 3 },
            { dst := Option.some 8, g := Go.Am.QG.no,
              op :=
                Go.Op.binOp Go.BinOp.geq 3 (Go.Operand.tmp 7)
                  (Go.Operand.const (Go.Value.int Go.IntKind.i64 (Int.ofNat 0))) 3,
              type := 4 },
            { dst := Option.some 4, g := Go.Am.QG.no, op := Go.Op.assign (Go.Operand.tmp 8), type := 4 }]).seq
      Go.Am.QC.ret))
theorem q31_ok : bodyComp Tryd.prog 31 = some q31 := by kernel_rfl
noncomputable def q32 : QC :=
  ((Go.Am.QC.plain
        [{ dst := Option.some 2, g := Go.Am.QG.no, op := Go.Op.assign (Go.Operand.const (Go.Value.bool Bool.false)),
            type := 4 }]).seq
    ((Go.Am.QC.plain
          [{ dst := Option.some 3, g := Go.Am.QG.no, op := Go.Op.move (Go.Operand.tmp 0), type := 3 },
            { dst := Option.some 4, g := Go.Am.QG.no,
              op :=
                Go.Op.binOp Go.BinOp.lss 3 (Go.Operand.tmp 3)
                  (Go.Operand.const (Go.Value.int Go.IntKind.i64 (Int.ofNat 0))) 3,
              type := 4 },
            { dst := Option.some 5, g := Go.Am.QG.no, op := Go.Op.move (Go.Operand.tmp 4), type := 4 },
            { dst := Option.some 6, g := Go.Am.QG.at 5 Bool.false, op := Go.Op.move (Go.Operand.tmp 0), type := 3 },
            { dst := Option.some 7, g := Go.Am.QG.at 5 Bool.false,
              op :=
                Go.Op.binOp Go.BinOp.geq 3 (Go.Operand.tmp 6)
                  (Go.Operand.const (Go.Value.int Go.IntKind.i64 (Int.ofNat 5))) 3,
              type := 4 },
            { dst := Option.some 8, g := Go.Am.QG.no,
              op := Go.Op.pick (Go.Operand.tmp 5) (Go.Operand.const (Go.Value.bool Bool.true)) (Go.Operand.tmp 7),
              type := 4 },
            { dst := Option.some 2, g := Go.Am.QG.no, op := Go.Op.assign (Go.Operand.tmp 8), type := 4 }]).seq
      Go.Am.QC.ret))
theorem q32_ok : bodyComp Tryd.prog 32 = some q32 := by kernel_rfl
noncomputable def q33 : QC :=
  ((Go.Am.QC.plain
        [{ dst := Option.some 2, g := Go.Am.QG.no, op := Go.Op.box 28 (Go.Operand.tmp 0), type := 0 },
          { dst := Option.some 4, g := Go.Am.QG.no, op := Go.Op.assign (Go.Operand.const Go.Value.nilFunc),
            type := 58 }]).seq
    (((Go.Am.QC.drawn
              {
                toList :=
                  [{ dst := Option.some 5, op := Go.Op.load 28 (Go.Operand.tmp 2), type := 28, pos := "match.go:77",
                      after := { toList := [] }, guard := Option.none },
                    { dst := Option.some 6, op := Go.Op.load 28 (Go.Operand.tmp 2), type := 28, pos := "match.go:77",
                      after := { toList := [] }, guard := Option.none },
                    { dst := Option.some 7, op := Go.Op.move (Go.Operand.tmp 1), type := 3, pos := "match.go:77",
                      after := { toList := [] }, guard := Option.none },
                    { dst := Option.some 8,
                      op :=
                        Go.Op.call
                          { callee := Go.Callee.value (Go.Operand.func 45),
                            args := { toList := [Go.Operand.tmp 6, Go.Operand.tmp 7] },
                            argTypes := { toList := [28, 3] } },
                      type := 3, pos := "match.go:77",
                      after :=
                        { toList := [{ on := 1, ground := Go.Ground.data }, { on := 2, ground := Go.Ground.data }] },
                      guard := Option.none },
                    { dst := Option.some 9,
                      op :=
                        Go.Op.call
                          { callee := Go.Callee.value (Go.Operand.func 44),
                            args := { toList := [Go.Operand.tmp 5, Go.Operand.tmp 8] },
                            argTypes := { toList := [28, 3] } },
                      type := 3, pos := "match.go:77",
                      after :=
                        {
                          toList :=
                            [{ on := 0, ground := Go.Ground.data }, { on := 3, ground := Go.Ground.data },
                              { on := 3, ground := Go.Ground.chain }] },
                      guard := Option.none },
                    { dst := Option.some 10,
                      op :=
                        Go.Op.binOp Go.BinOp.lss 3 (Go.Operand.tmp 9)
                          (Go.Operand.const (Go.Value.int Go.IntKind.i64 (Int.ofNat 0))) 3,
                      type := 4, pos := "match.go:77", after := { toList := [{ on := 4, ground := Go.Ground.data }] },
                      guard := Option.none }] }).seq
          (Go.Am.QC.cond (Go.Operand.tmp 10)
            ((Go.Am.QC.plain
                  [{ dst := Option.some 11, g := Go.Am.QG.no, op := Go.Op.load 28 (Go.Operand.tmp 2), type := 28 },
                    { dst := Option.some 12, g := Go.Am.QG.no,
                      op := Go.Op.build 72 { toList := [(0, Go.Operand.tmp 11)] }, type := 72 },
                    { dst := Option.some 13, g := Go.Am.QG.no,
                      op := Go.Op.makeFunc (Go.Fn.func 46) { toList := [Go.Operand.tmp 12] } { toList := [] },
                      type := 58 },
                    { dst := Option.some 4, g := Go.Am.QG.no, op := Go.Op.assign (Go.Operand.tmp 13), type := 58 }]).seq
              Go.Am.QC.ret)
            Go.Am.QC.skip)).seq
      ((Go.Am.QC.plain
            [{ dst := Option.some 14, g := Go.Am.QG.no, op := Go.Op.load 28 (Go.Operand.tmp 2), type := 28 },
              { dst := Option.some 15, g := Go.Am.QG.no,
                op :=
                  Go.Op.call
                    { callee := Go.Callee.value (Go.Operand.func 47), args := { toList := [Go.Operand.tmp 14] },
                      argTypes := { toList := [28] } },
                type := 73 },
              { dst := Option.some 16, g := Go.Am.QG.no,
                op := Go.Op.makeFunc (Go.Fn.func 48) { toList := [Go.Operand.tmp 15] } { toList := [] }, type := 58 },
              { dst := Option.some 4, g := Go.Am.QG.no, op := Go.Op.assign (Go.Operand.tmp 16), type := 58 }]).seq
        Go.Am.QC.ret)))
theorem q33_ok : bodyComp Tryd.prog 33 = some q33 := by kernel_rfl
noncomputable def q36 : QC :=
  ((Go.Am.QC.plain
        [{ dst := Option.some 1, g := Go.Am.QG.no, op := Go.Op.box 28 (Go.Operand.tmp 0), type := 0 },
          { dst := Option.some 2, g := Go.Am.QG.no, op := Go.Op.assign (Go.Operand.const (Go.Value.bool Bool.false)),
            type := 4 }]).seq
    (((Go.Am.QC.plain
              [{ dst := Option.some 3, g := Go.Am.QG.no, op := Go.Op.fieldAddr 28 (Go.Operand.tmp 1) 0, type := 0 },
                { dst := Option.some 4, g := Go.Am.QG.no, op := Go.Op.load 3 (Go.Operand.tmp 3), type := 3 }]).seq
          (Go.Am.QC.block 0
            (((Go.Am.QC.plain
                      [{ dst := Option.some 6, g := Go.Am.QG.no,
                          op :=
                            Go.Op.binOp Go.BinOp.eql 3 (Go.Operand.tmp 4)
                              (Go.Operand.const (Go.Value.int Go.IntKind.i64 (Int.ofNat 3))) 3,
                          type := 4 },
                        { dst := Option.some 5, g := Go.Am.QG.no, op := Go.Op.assign (Go.Operand.tmp 6),
                          type := 4 }]).seq
                  (Go.Am.QC.cond (Go.Operand.tmp 5) Go.Am.QC.skip
                    ((Go.Am.QC.plain
                          [{ dst := Option.some 7, g := Go.Am.QG.no,
                              op :=
                                Go.Op.binOp Go.BinOp.eql 3 (Go.Operand.tmp 4)
                                  (Go.Operand.const (Go.Value.int Go.IntKind.i64 (Int.ofNat 6))) 3,
                              type := 4 },
                            { dst := Option.some 5, g := Go.Am.QG.no, op := Go.Op.assign (Go.Operand.tmp 7),
                              type := 4 }]).seq
                      (Go.Am.QC.cond (Go.Operand.tmp 5) Go.Am.QC.skip
                        (Go.Am.QC.plain
                          [{ dst := Option.some 8, g := Go.Am.QG.no,
                              op :=
                                Go.Op.binOp Go.BinOp.eql 3 (Go.Operand.tmp 4)
                                  (Go.Operand.const (Go.Value.int Go.IntKind.i64 (Int.ofNat 8))) 3,
                              type := 4 },
                            { dst := Option.some 5, g := Go.Am.QG.no, op := Go.Op.assign (Go.Operand.tmp 8),
                              type := 4 }]))))).seq
              (Go.Am.QC.cond (Go.Operand.tmp 5)
                ((Go.Am.QC.plain
                      [{ dst := Option.some 2, g := Go.Am.QG.no,
                          op := Go.Op.assign (Go.Operand.const (Go.Value.bool Bool.true)), type := 4 }]).seq
                  Go.Am.QC.ret)
                (((Go.Am.QC.plain
                          [{ dst := Option.some 10, g := Go.Am.QG.no,
                              op :=
                                Go.Op.binOp Go.BinOp.eql 3 (Go.Operand.tmp 4)
                                  (Go.Operand.const (Go.Value.int Go.IntKind.i64 (Int.ofNat 4))) 3,
                              type := 4 },
                            { dst := Option.some 9, g := Go.Am.QG.no, op := Go.Op.assign (Go.Operand.tmp 10),
                              type := 4 }]).seq
                      (Go.Am.QC.cond (Go.Operand.tmp 9) Go.Am.QC.skip
                        (Go.Am.QC.plain
                          [{ dst := Option.some 11, g := Go.Am.QG.no,
                              op :=
                                Go.Op.binOp Go.BinOp.eql 3 (Go.Operand.tmp 4)
                                  (Go.Operand.const (Go.Value.int Go.IntKind.i64 (Int.ofNat 7))) 3,
                              type := 4 },
                            { dst := Option.some 9, g := Go.Am.QG.no, op := Go.Op.assign (Go.Operand.tmp 11),
                              type := 4 }]))).seq
                  (Go.Am.QC.cond (Go.Operand.tmp 9)
                    ((Go.Am.QC.plain
                          [{ dst := Option.some 12, g := Go.Am.QG.no, op := Go.Op.fieldAddr 28 (Go.Operand.tmp 1) 4,
                              type := 0 },
                            { dst := Option.some 13, g := Go.Am.QG.no, op := Go.Op.load 26 (Go.Operand.tmp 12),
                              type := 26 },
                            { dst := Option.some 14, g := Go.Am.QG.no,
                              op :=
                                Go.Op.call
                                  { callee := Go.Callee.value (Go.Operand.func 52),
                                    args := { toList := [Go.Operand.tmp 13, Go.Operand.func 53] },
                                    argTypes := { toList := [26, 32] } },
                              type := 4 },
                            { dst := Option.some 15, g := Go.Am.QG.no,
                              op := Go.Op.unOp Go.UnOp.not 4 (Go.Operand.tmp 14), type := 4 },
                            { dst := Option.some 2, g := Go.Am.QG.no, op := Go.Op.assign (Go.Operand.tmp 15),
                              type := 4 }]).seq
                      Go.Am.QC.ret)
                    ((Go.Am.QC.plain
                          [{ dst := Option.some 17, g := Go.Am.QG.no,
                              op :=
                                Go.Op.binOp Go.BinOp.eql 3 (Go.Operand.tmp 4)
                                  (Go.Operand.const (Go.Value.int Go.IntKind.i64 (Int.ofNat 5))) 3,
                              type := 4 },
                            { dst := Option.some 16, g := Go.Am.QG.no, op := Go.Op.assign (Go.Operand.tmp 17),
                              type := 4 }]).seq
                      (Go.Am.QC.cond (Go.Operand.tmp 16)
                        ((Go.Am.QC.plain
                              [{ dst := Option.some 18, g := Go.Am.QG.no, op := Go.Op.fieldAddr 28 (Go.Operand.tmp 1) 4,
                                  type := 0 },
                                { dst := Option.some 19, g := Go.Am.QG.no, op := Go.Op.load 26 (Go.Operand.tmp 18),
                                  type := 26 },
                                { dst := Option.some 20, g := Go.Am.QG.no,
                                  op :=
                                    Go.Op.call
                                      { callee := Go.Callee.value (Go.Operand.func 52),
                                        args := { toList := [Go.Operand.tmp 19, Go.Operand.func 36] },
                                        argTypes := { toList := [26, 32] } },
                                  type := 4 },
                                { dst := Option.some 2, g := Go.Am.QG.no, op := Go.Op.assign (Go.Operand.tmp 20),
                                  type := 4 }]).seq
                          Go.Am.QC.ret)
                        ((Go.Am.QC.plain
                              [{ dst := Option.some 22, g := Go.Am.QG.no,
                                  op :=
                                    Go.Op.binOp Go.BinOp.eql 3 (Go.Operand.tmp 4)
                                      (Go.Operand.const (Go.Value.int Go.IntKind.i64 (Int.ofNat 9))) 3,
                                  type := 4 },
                                { dst := Option.some 21, g := Go.Am.QG.no, op := Go.Op.assign (Go.Operand.tmp 22),
                                  type := 4 }]).seq
                          (Go.Am.QC.cond (Go.Operand.tmp 21)
                            ((Go.Am.QC.plain
                                  [{ dst := Option.some 23, g := Go.Am.QG.no,
                                      op := Go.Op.fieldAddr 28 (Go.Operand.tmp 1) 2, type := 0 },
                                    { dst := Option.some 24, g := Go.Am.QG.no, op := Go.Op.load 3 (Go.Operand.tmp 23),
                                      type := 3 },
                                    { dst := Option.some 25, g := Go.Am.QG.no,
                                      op :=
                                        Go.Op.binOp Go.BinOp.eql 3 (Go.Operand.tmp 24)
                                          (Go.Operand.const (Go.Value.int Go.IntKind.i64 (Int.ofNat 0))) 3,
                                      type := 4 },
                                    { dst := Option.some 26, g := Go.Am.QG.no, op := Go.Op.move (Go.Operand.tmp 25),
                                      type := 4 },
                                    { dst := Option.some 27, g := Go.Am.QG.at 26 Bool.false,
                                      op := Go.Op.fieldAddr 28 (Go.Operand.tmp 1) 4, type := 0 },
                                    { dst := Option.some 28, g := Go.Am.QG.at 26 Bool.false,
                                      op := Go.Op.load 26 (Go.Operand.tmp 27), type := 26 },
                                    { dst := Option.some 29, g := Go.Am.QG.at 26 Bool.false,
                                      op :=
                                        Go.Op.indexAddr 26 (Go.Operand.tmp 28)
                                          (Go.Operand.const (Go.Value.int Go.IntKind.i64 (Int.ofNat 0))),
                                      type := 0 },
                                    { dst := Option.some 30, g := Go.Am.QG.at 26 Bool.false,
                                      op := Go.Op.load 28 (Go.Operand.tmp 29), type := 28 },
                                    { dst := Option.some 31, g := Go.Am.QG.at 26 Bool.false,
                                      op :=
                                        Go.Op.call
                                          { callee := Go.Callee.value (Go.Operand.func 36),
                                            args := { toList := [Go.Operand.tmp 30] }, argTypes := { toList := [28] } },
                                      type := 4 },
                                    { dst := Option.some 32, g := Go.Am.QG.no,
                                      op :=
                                        Go.Op.pick (Go.Operand.tmp 26) (Go.Operand.const (Go.Value.bool Bool.true))
                                          (Go.Operand.tmp 31),
                                      type := 4 },
                                    { dst := Option.some 2, g := Go.Am.QG.no, op := Go.Op.assign (Go.Operand.tmp 32),
                                      type := 4 }]).seq
                              Go.Am.QC.ret)
                            Go.Am.QC.skip)))))))))).seq
      ((Go.Am.QC.plain
            [{ dst := Option.some 2, g := Go.Am.QG.no, op := Go.Op.assign (Go.Operand.const (Go.Value.bool Bool.false)),
                type := 4 }]).seq
        Go.Am.QC.ret)))
theorem q36_ok : bodyComp Tryd.prog 36 = some q36 := by kernel_rfl
noncomputable def q42 : QC :=
  ((Go.Am.QC.plain
        [{ dst := Option.some 1, g := Go.Am.QG.no, op := Go.Op.box 28 (Go.Operand.tmp 0), type := 0 },
          { dst := Option.some 2, g := Go.Am.QG.no, op := Go.Op.assign (Go.Operand.const (Go.Value.bool Bool.false)),
            type := 4 }]).seq
    (((Go.Am.QC.plain
              [{ dst := Option.some 3, g := Go.Am.QG.no, op := Go.Op.fieldAddr 28 (Go.Operand.tmp 1) 0, type := 0 },
                { dst := Option.some 4, g := Go.Am.QG.no, op := Go.Op.load 3 (Go.Operand.tmp 3), type := 3 }]).seq
          (Go.Am.QC.block 0
            ((Go.Am.QC.plain
                  [{ dst := Option.some 6, g := Go.Am.QG.no,
                      op :=
                        Go.Op.binOp Go.BinOp.eql 3 (Go.Operand.tmp 4)
                          (Go.Operand.const (Go.Value.int Go.IntKind.i64 (Int.ofNat 1))) 3,
                      type := 4 },
                    { dst := Option.some 5, g := Go.Am.QG.no, op := Go.Op.assign (Go.Operand.tmp 6), type := 4 }]).seq
              (Go.Am.QC.cond (Go.Operand.tmp 5)
                ((Go.Am.QC.plain
                      [{ dst := Option.some 7, g := Go.Am.QG.no, op := Go.Op.fieldAddr 28 (Go.Operand.tmp 1) 1,
                          type := 0 },
                        { dst := Option.some 8, g := Go.Am.QG.no, op := Go.Op.load 3 (Go.Operand.tmp 7), type := 3 },
                        { dst := Option.some 9, g := Go.Am.QG.no,
                          op :=
                            Go.Op.binOp Go.BinOp.geq 3 (Go.Operand.tmp 8)
                              (Go.Operand.const (Go.Value.int Go.IntKind.i64 (Int.ofNat 1))) 3,
                          type := 4 },
                        { dst := Option.some 10, g := Go.Am.QG.no, op := Go.Op.move (Go.Operand.tmp 9), type := 4 },
                        { dst := Option.some 11, g := Go.Am.QG.at 10 Bool.true,
                          op := Go.Op.fieldAddr 28 (Go.Operand.tmp 1) 1, type := 0 },
                        { dst := Option.some 12, g := Go.Am.QG.at 10 Bool.true, op := Go.Op.load 3 (Go.Operand.tmp 11),
                          type := 3 },
                        { dst := Option.some 13, g := Go.Am.QG.at 10 Bool.true,
                          op :=
                            Go.Op.binOp Go.BinOp.leq 3 (Go.Operand.tmp 12)
                              (Go.Operand.const (Go.Value.int Go.IntKind.i64 (Int.ofNat 31))) 3,
                          type := 4 },
                        { dst := Option.some 14, g := Go.Am.QG.no,
                          op :=
                            Go.Op.pick (Go.Operand.tmp 10) (Go.Operand.tmp 13)
                              (Go.Operand.const (Go.Value.bool Bool.false)),
                          type := 4 },
                        { dst := Option.some 15, g := Go.Am.QG.no, op := Go.Op.move (Go.Operand.tmp 14), type := 4 },
                        { dst := Option.some 16, g := Go.Am.QG.at 15 Bool.true,
                          op := Go.Op.fieldAddr 28 (Go.Operand.tmp 1) 2, type := 0 },
                        { dst := Option.some 17, g := Go.Am.QG.at 15 Bool.true, op := Go.Op.load 3 (Go.Operand.tmp 16),
                          type := 3 },
                        { dst := Option.some 18, g := Go.Am.QG.at 15 Bool.true,
                          op :=
                            Go.Op.binOp Go.BinOp.eql 3 (Go.Operand.tmp 17)
                              (Go.Operand.const (Go.Value.int Go.IntKind.i64 (Int.ofNat 0))) 3,
                          type := 4 },
                        { dst := Option.some 19, g := Go.Am.QG.no,
                          op :=
                            Go.Op.pick (Go.Operand.tmp 15) (Go.Operand.tmp 18)
                              (Go.Operand.const (Go.Value.bool Bool.false)),
                          type := 4 },
                        { dst := Option.some 20, g := Go.Am.QG.no, op := Go.Op.move (Go.Operand.tmp 19), type := 4 },
                        { dst := Option.some 21, g := Go.Am.QG.at 20 Bool.true,
                          op := Go.Op.fieldAddr 28 (Go.Operand.tmp 1) 3, type := 0 },
                        { dst := Option.some 22, g := Go.Am.QG.at 20 Bool.true, op := Go.Op.load 3 (Go.Operand.tmp 21),
                          type := 3 },
                        { dst := Option.some 23, g := Go.Am.QG.at 20 Bool.true,
                          op :=
                            Go.Op.binOp Go.BinOp.eql 3 (Go.Operand.tmp 22)
                              (Go.Operand.const (Go.Value.int Go.IntKind.i64 (Int.ofNat 0))) 3,
                          type := 4 },
                        { dst := Option.some 24, g := Go.Am.QG.no,
                          op :=
                            Go.Op.pick (Go.Operand.tmp 20) (Go.Operand.tmp 23)
                              (Go.Operand.const (Go.Value.bool Bool.false)),
                          type := 4 },
                        { dst := Option.some 25, g := Go.Am.QG.no, op := Go.Op.move (Go.Operand.tmp 24), type := 4 },
                        { dst := Option.some 26, g := Go.Am.QG.at 25 Bool.true,
                          op := Go.Op.fieldAddr 28 (Go.Operand.tmp 1) 4, type := 0 },
                        { dst := Option.some 27, g := Go.Am.QG.at 25 Bool.true, op := Go.Op.load 26 (Go.Operand.tmp 26),
                          type := 26 },
                        { dst := Option.some 28, g := Go.Am.QG.at 25 Bool.true,
                          op :=
                            Go.Op.call
                              { callee := Go.Callee.builtin Go.Builtin.len, args := { toList := [Go.Operand.tmp 27] },
                                argTypes := { toList := [26] } },
                          type := 3 },
                        { dst := Option.some 29, g := Go.Am.QG.at 25 Bool.true,
                          op :=
                            Go.Op.binOp Go.BinOp.eql 3 (Go.Operand.tmp 28)
                              (Go.Operand.const (Go.Value.int Go.IntKind.i64 (Int.ofNat 0))) 3,
                          type := 4 },
                        { dst := Option.some 30, g := Go.Am.QG.no,
                          op :=
                            Go.Op.pick (Go.Operand.tmp 25) (Go.Operand.tmp 29)
                              (Go.Operand.const (Go.Value.bool Bool.false)),
                          type := 4 },
                        { dst := Option.some 2, g := Go.Am.QG.no, op := Go.Op.assign (Go.Operand.tmp 30),
                          type := 4 }]).seq
                  Go.Am.QC.ret)
                (((Go.Am.QC.plain
                          [{ dst := Option.some 32, g := Go.Am.QG.no,
                              op :=
                                Go.Op.binOp Go.BinOp.eql 3 (Go.Operand.tmp 4)
                                  (Go.Operand.const (Go.Value.int Go.IntKind.i64 (Int.ofNat 2))) 3,
                              type := 4 },
                            { dst := Option.some 31, g := Go.Am.QG.no, op := Go.Op.assign (Go.Operand.tmp 32),
                              type := 4 }]).seq
                      (Go.Am.QC.cond (Go.Operand.tmp 31) Go.Am.QC.skip
                        (Go.Am.QC.plain
                          [{ dst := Option.some 33, g := Go.Am.QG.no,
                              op :=
                                Go.Op.binOp Go.BinOp.eql 3 (Go.Operand.tmp 4)
                                  (Go.Operand.const (Go.Value.int Go.IntKind.i64 (Int.ofNat 3))) 3,
                              type := 4 },
                            { dst := Option.some 31, g := Go.Am.QG.no, op := Go.Op.assign (Go.Operand.tmp 33),
                              type := 4 }]))).seq
                  (Go.Am.QC.cond (Go.Operand.tmp 31)
                    ((Go.Am.QC.plain
                          [{ dst := Option.some 34, g := Go.Am.QG.no, op := Go.Op.load 28 (Go.Operand.tmp 1),
                              type := 28 },
                            { dst := Option.some 35, g := Go.Am.QG.no,
                              op :=
                                Go.Op.call
                                  { callee := Go.Callee.value (Go.Operand.func 57),
                                    args := { toList := [Go.Operand.tmp 34] }, argTypes := { toList := [28] } },
                              type := 4 },
                            { dst := Option.some 36, g := Go.Am.QG.no, op := Go.Op.move (Go.Operand.tmp 35),
                              type := 4 },
                            { dst := Option.some 37, g := Go.Am.QG.at 36 Bool.true,
                              op := Go.Op.fieldAddr 28 (Go.Operand.tmp 1) 4, type := 0 },
                            { dst := Option.some 38, g := Go.Am.QG.at 36 Bool.true,
                              op := Go.Op.load 26 (Go.Operand.tmp 37), type := 26 },
                            { dst := Option.some 39, g := Go.Am.QG.at 36 Bool.true,
                              op :=
                                Go.Op.call
                                  { callee := Go.Callee.builtin Go.Builtin.len,
                                    args := { toList := [Go.Operand.tmp 38] }, argTypes := { toList := [26] } },
                              type := 3 },
                            { dst := Option.some 40, g := Go.Am.QG.at 36 Bool.true,
                              op :=
                                Go.Op.binOp Go.BinOp.eql 3 (Go.Operand.tmp 39)
                                  (Go.Operand.const (Go.Value.int Go.IntKind.i64 (Int.ofNat 0))) 3,
                              type := 4 },
                            { dst := Option.some 41, g := Go.Am.QG.no,
                              op :=
                                Go.Op.pick (Go.Operand.tmp 36) (Go.Operand.tmp 40)
                                  (Go.Operand.const (Go.Value.bool Bool.false)),
                              type := 4 },
                            { dst := Option.some 2, g := Go.Am.QG.no, op := Go.Op.assign (Go.Operand.tmp 41),
                              type := 4 }]).seq
                      Go.Am.QC.ret)
                    (((Go.Am.QC.plain
                              [{ dst := Option.some 43, g := Go.Am.QG.no,
                                  op :=
                                    Go.Op.binOp Go.BinOp.eql 3 (Go.Operand.tmp 4)
                                      (Go.Operand.const (Go.Value.int Go.IntKind.i64 (Int.ofNat 4))) 3,
                                  type := 4 },
                                { dst := Option.some 42, g := Go.Am.QG.no, op := Go.Op.assign (Go.Operand.tmp 43),
                                  type := 4 }]).seq
                          (Go.Am.QC.cond (Go.Operand.tmp 42) Go.Am.QC.skip
                            (Go.Am.QC.plain
                              [{ dst := Option.some 44, g := Go.Am.QG.no,
                                  op :=
                                    Go.Op.binOp Go.BinOp.eql 3 (Go.Operand.tmp 4)
                                      (Go.Operand.const (Go.Value.int Go.IntKind.i64 (Int.ofNat 5))) 3,
                                  type := 4 },
                                { dst := Option.some 42, g := Go.Am.QG.no, op := Go.Op.assign (Go.Operand.tmp 44),
                                  type := 4 }]))).seq
                      (Go.Am.QC.cond (Go.Operand.tmp 42)
                        ((Go.Am.QC.plain
                              [{ dst := Option.some 45, g := Go.Am.QG.no, op := Go.Op.load 28 (Go.Operand.tmp 1),
                                  type := 28 },
                                { dst := Option.some 46, g := Go.Am.QG.no,
                                  op :=
                                    Go.Op.call
                                      { callee := Go.Callee.value (Go.Operand.func 57),
                                        args := { toList := [Go.Operand.tmp 45] }, argTypes := { toList := [28] } },
                                  type := 4 },
                                { dst := Option.some 47, g := Go.Am.QG.no, op := Go.Op.move (Go.Operand.tmp 46),
                                  type := 4 },
                                { dst := Option.some 48, g := Go.Am.QG.at 47 Bool.true,
                                  op := Go.Op.fieldAddr 28 (Go.Operand.tmp 1) 4, type := 0 },
                                { dst := Option.some 49, g := Go.Am.QG.at 47 Bool.true,
                                  op := Go.Op.load 26 (Go.Operand.tmp 48), type := 26 },
                                { dst := Option.some 50, g := Go.Am.QG.at 47 Bool.true,
                                  op :=
                                    Go.Op.call
                                      { callee := Go.Callee.builtin Go.Builtin.len,
                                        args := { toList := [Go.Operand.tmp 49] }, argTypes := { toList := [26] } },
                                  type := 3 },
                                { dst := Option.some 51, g := Go.Am.QG.at 47 Bool.true,
                                  op :=
                                    Go.Op.binOp Go.BinOp.geq 3 (Go.Operand.tmp 50)
                                      (Go.Operand.const (Go.Value.int Go.IntKind.i64 (Int.ofNat 2))) 3,
                                  type := 4 },
                                { dst := Option.some 52, g := Go.Am.QG.no,
                                  op :=
                                    Go.Op.pick (Go.Operand.tmp 47) (Go.Operand.tmp 51)
                                      (Go.Operand.const (Go.Value.bool Bool.false)),
                                  type := 4 },
                                { dst := Option.some 2, g := Go.Am.QG.no, op := Go.Op.assign (Go.Operand.tmp 52),
                                  type := 4 }]).seq
                          Go.Am.QC.ret)
                        (((Go.Am.QC.plain
                                  [{ dst := Option.some 54, g := Go.Am.QG.no,
                                      op :=
                                        Go.Op.binOp Go.BinOp.eql 3 (Go.Operand.tmp 4)
                                          (Go.Operand.const (Go.Value.int Go.IntKind.i64 (Int.ofNat 6))) 3,
                                      type := 4 },
                                    { dst := Option.some 53, g := Go.Am.QG.no, op := Go.Op.assign (Go.Operand.tmp 54),
                                      type := 4 }]).seq
                              (Go.Am.QC.cond (Go.Operand.tmp 53) Go.Am.QC.skip
                                ((Go.Am.QC.plain
                                      [{ dst := Option.some 55, g := Go.Am.QG.no,
                                          op :=
                                            Go.Op.binOp Go.BinOp.eql 3 (Go.Operand.tmp 4)
                                              (Go.Operand.const (Go.Value.int Go.IntKind.i64 (Int.ofNat 7))) 3,
                                          type := 4 },
                                        { dst := Option.some 53, g := Go.Am.QG.no,
                                          op := Go.Op.assign (Go.Operand.tmp 55), type := 4 }]).seq
                                  (Go.Am.QC.cond (Go.Operand.tmp 53) Go.Am.QC.skip
                                    (Go.Am.QC.plain
                                      [{ dst := Option.some 56, g := Go.Am.QG.no,
                                          op :=
                                            Go.Op.binOp Go.BinOp.eql 3 (Go.Operand.tmp 4)
                                              (Go.Operand.const (Go.Value.int Go.IntKind.i64 (Int.ofNat 8))) 3,
                                          type := 4 },
                                        { dst := Option.some 53, g := Go.Am.QG.no,
                                          op := Go.Op.assign (Go.Operand.tmp 56), type := 4 }]))))).seq
                          (Go.Am.QC.cond (Go.Operand.tmp 53)
                            ((Go.Am.QC.plain
                                  [{ dst := Option.some 57, g := Go.Am.QG.no, op := Go.Op.load 28 (Go.Operand.tmp 1),
                                      type := 28 },
                                    { dst := Option.some 58, g := Go.Am.QG.no,
                                      op :=
                                        Go.Op.call
                                          { callee := Go.Callee.value (Go.Operand.func 57),
                                            args := { toList := [Go.Operand.tmp 57] }, argTypes := { toList := [28] } },
                                      type := 4 },
                                    { dst := Option.some 59, g := Go.Am.QG.no, op := Go.Op.move (Go.Operand.tmp 58),
                                      type := 4 },
                                    { dst := Option.some 60, g := Go.Am.QG.at 59 Bool.true,
                                      op := Go.Op.fieldAddr 28 (Go.Operand.tmp 1) 4, type := 0 },
                                    { dst := Option.some 61, g := Go.Am.QG.at 59 Bool.true,
                                      op := Go.Op.load 26 (Go.Operand.tmp 60), type := 26 },
                                    { dst := Option.some 62, g := Go.Am.QG.at 59 Bool.true,
                                      op :=
                                        Go.Op.call
                                          { callee := Go.Callee.builtin Go.Builtin.len,
                                            args := { toList := [Go.Operand.tmp 61] }, argTypes := { toList := [26] } },
                                      type := 3 },
                                    { dst := Option.some 63, g := Go.Am.QG.at 59 Bool.true,
                                      op :=
                                        Go.Op.binOp Go.BinOp.eql 3 (Go.Operand.tmp 62)
                                          (Go.Operand.const (Go.Value.int Go.IntKind.i64 (Int.ofNat 1))) 3,
                                      type := 4 },
                                    { dst := Option.some 64, g := Go.Am.QG.no,
                                      op :=
                                        Go.Op.pick (Go.Operand.tmp 59) (Go.Operand.tmp 63)
                                          (Go.Operand.const (Go.Value.bool Bool.false)),
                                      type := 4 },
                                    { dst := Option.some 2, g := Go.Am.QG.no, op := Go.Op.assign (Go.Operand.tmp 64),
                                      type := 4 }]).seq
                              Go.Am.QC.ret)
                            ((Go.Am.QC.plain
                                  [{ dst := Option.some 66, g := Go.Am.QG.no,
                                      op :=
                                        Go.Op.binOp Go.BinOp.eql 3 (Go.Operand.tmp 4)
                                          (Go.Operand.const (Go.Value.int Go.IntKind.i64 (Int.ofNat 9))) 3,
                                      type := 4 },
                                    { dst := Option.some 65, g := Go.Am.QG.no, op := Go.Op.assign (Go.Operand.tmp 66),
                                      type := 4 }]).seq
                              (Go.Am.QC.cond (Go.Operand.tmp 65)
                                ((Go.Am.QC.plain
                                      [{ dst := Option.some 67, g := Go.Am.QG.no,
                                          op := Go.Op.fieldAddr 28 (Go.Operand.tmp 1) 1, type := 0 },
                                        { dst := Option.some 68, g := Go.Am.QG.no,
                                          op := Go.Op.load 3 (Go.Operand.tmp 67), type := 3 },
                                        { dst := Option.some 69, g := Go.Am.QG.no,
                                          op :=
                                            Go.Op.binOp Go.BinOp.eql 3 (Go.Operand.tmp 68)
                                              (Go.Operand.const (Go.Value.int Go.IntKind.i64 (Int.ofNat 0))) 3,
                                          type := 4 },
                                        { dst := Option.some 70, g := Go.Am.QG.no, op := Go.Op.move (Go.Operand.tmp 69),
                                          type := 4 },
                                        { dst := Option.some 71, g := Go.Am.QG.at 70 Bool.true,
                                          op := Go.Op.fieldAddr 28 (Go.Operand.tmp 1) 2, type := 0 },
                                        { dst := Option.some 72, g := Go.Am.QG.at 70 Bool.true,
                                          op := Go.Op.load 3 (Go.Operand.tmp 71), type := 3 },
                                        { dst := Option.some 73, g := Go.Am.QG.at 70 Bool.true,
                                          op := Go.Op.fieldAddr 28 (Go.Operand.tmp 1) 3, type := 0 },
                                        { dst := Option.some 74, g := Go.Am.QG.at 70 Bool.true,
                                          op := Go.Op.load 3 (Go.Operand.tmp 73), type := 3 },
                                        { dst := Option.some 75, g := Go.Am.QG.at 70 Bool.true,
                                          op :=
                                            Go.Op.call
                                              { callee := Go.Callee.value (Go.Operand.func 58),
                                                args := { toList := [Go.Operand.tmp 72, Go.Operand.tmp 74] },
                                                argTypes := { toList := [3, 3] } },
                                          type := 4 },
                                        { dst := Option.some 76, g := Go.Am.QG.no,
                                          op :=
                                            Go.Op.pick (Go.Operand.tmp 70) (Go.Operand.tmp 75)
                                              (Go.Operand.const (Go.Value.bool Bool.false)),
                                          type := 4 },
                                        { dst := Option.some 77, g := Go.Am.QG.no, op := Go.Op.move (Go.Operand.tmp 76),
                                          type := 4 },
                                        { dst := Option.some 78, g := Go.Am.QG.at 77 Bool.true,
                                          op := Go.Op.fieldAddr 28 (Go.Operand.tmp 1) 4, type := 0 },
                                        { dst := Option.some 79, g := Go.Am.QG.at 77 Bool.true,
                                          op := Go.Op.load 26 (Go.Operand.tmp 78), type := 26 },
                                        { dst := Option.some 80, g := Go.Am.QG.at 77 Bool.true,
                                          op :=
                                            Go.Op.call
                                              { callee := Go.Callee.builtin Go.Builtin.len,
                                                args := { toList := [Go.Operand.tmp 79] },
                                                argTypes := { toList := [26] } },
                                          type := 3 },
                                        { dst := Option.some 81, g := Go.Am.QG.at 77 Bool.true,
                                          op :=
                                            Go.Op.binOp Go.BinOp.eql 3 (Go.Operand.tmp 80)
                                              (Go.Operand.const (Go.Value.int Go.IntKind.i64 (Int.ofNat 1))) 3,
                                          type := 4 },
                                        { dst := Option.some 82, g := Go.Am.QG.no,
                                          op :=
                                            Go.Op.pick (Go.Operand.tmp 77) (Go.Operand.tmp 81)
                                              (Go.Operand.const (Go.Value.bool Bool.false)),
                                          type := 4 },
                                        { dst := Option.some 2, g := Go.Am.QG.no,
                                          op := Go.Op.assign (Go.Operand.tmp 82), type := 4 }]).seq
                                  Go.Am.QC.ret)
                                Go.Am.QC.skip)))))))))))).seq
      ((Go.Am.QC.plain
            [{ dst := Option.some 2, g := Go.Am.QG.no, op := Go.Op.assign (Go.Operand.const (Go.Value.bool Bool.false)),
                type := 4 }]).seq
        Go.Am.QC.ret)))
theorem q42_ok : bodyComp Tryd.prog 42 = some q42 := by kernel_rfl
noncomputable def q43 : QC :=
  ((Go.Am.QC.plain
        [{ dst := Option.some 4, g := Go.Am.QG.no,
            op := Go.Op.assign (Go.Operand.const (Go.Value.int Go.IntKind.i64 (Int.ofNat 0))), type := 3 }]).seq
    (((Go.Am.QC.plain
              [{ dst := Option.some 6, g := Go.Am.QG.no, op := Go.Op.move (Go.Operand.tmp 0), type := 23 },
                { dst := Option.some 7, g := Go.Am.QG.no,
                  op :=
                    Go.Op.call
                      { callee := Go.Callee.builtin Go.Builtin.len, args := { toList := [Go.Operand.tmp 6] },
                        argTypes := { toList := [23] } },
                  type := 3 },
                { dst := Option.some 8, g := Go.Am.QG.no,
                  op := Go.Op.move (Go.Operand.const (Go.Value.int Go.IntKind.i64 (Int.ofNat 0))), type := 3 }]).seq
          (Go.Am.QC.block 0
            ((Go.Am.QC.plain
                    [{ dst := Option.some 9, g := Go.Am.QG.no,
                        op := Go.Op.binOp Go.BinOp.lss 3 (Go.Operand.tmp 8) (Go.Operand.tmp 7) 3, type := 0 }]).seq
                ((Go.Am.QC.cond (Go.Operand.tmp 9) Go.Am.QC.skip (Go.Am.QC.exit 0)).seq
                  ((Go.Am.QC.block 1
                        ((Go.Am.QC.plain
                              [{ dst := Option.some 10, g := Go.Am.QG.no, op := Go.Op.move (Go.Operand.tmp 8),
                                  type := 3 },
                                { dst := Option.some 5, g := Go.Am.QG.no, op := Go.Op.assign (Go.Operand.tmp 10),
                                  type := 3 }]).seq
                          ((Go.Am.QC.plain
                                [{ dst := Option.some 11, g := Go.Am.QG.no, op := Go.Op.move (Go.Operand.tmp 1),
                                    type := 44 },
                                  { dst := Option.some 12, g := Go.Am.QG.no, op := Go.Op.move (Go.Operand.tmp 0),
                                    type := 23 },
                                  { dst := Option.some 13, g := Go.Am.QG.no, op := Go.Op.move (Go.Operand.tmp 5),
                                    type := 3 },
                                  { dst := Option.some 14, g := Go.Am.QG.no,
                                    op := Go.Op.indexAddr 23 (Go.Operand.tmp 12) (Go.Operand.tmp 13), type := 0 },
                                  { dst := Option.some 15, g := Go.Am.QG.no, op := Go.Op.load 3 (Go.Operand.tmp 14),
                                    type := 3 },
                                  { dst := Option.some 16, g := Go.Am.QG.no,
                                    op :=
                                      Go.Op.call
                                        { callee := Go.Callee.value (Go.Operand.tmp 11),
                                          args := { toList := [Go.Operand.tmp 15] }, argTypes := { toList := [3] } },
                                    type := 4 }]).seq
                            (Go.Am.QC.cond (Go.Operand.tmp 16)
                              ((Go.Am.QC.plain
                                    [{ dst := Option.some 17, g := Go.Am.QG.no, op := Go.Op.move (Go.Operand.tmp 5),
                                        type := 3 },
                                      { dst := Option.some 4, g := Go.Am.QG.no, op := Go.Op.assign (Go.Operand.tmp 17),
                                        type := 3 }]).seq
                                Go.Am.QC.ret)
                              Go.Am.QC.skip)))).seq
                    (Go.Am.QC.plain
                      [{ dst := Option.some 18, g := Go.Am.QG.no,
                          op :=
                            Go.Op.binOp Go.BinOp.add 3 (Go.Operand.tmp 8)
                              (Go.Operand.const (Go.Value.int Go.IntKind.i64 (Int.ofNat 1))) 3,
                          type := 3 },
                        { dst := Option.some 8, g := Go.Am.QG.no, op := Go.Op.move (Go.Operand.tmp 18),
                          type := 3 }])))).loop)).seq
      ((Go.Am.QC.plain
            [{ dst := Option.some 4, g := Go.Am.QG.no,
                op := Go.Op.assign (Go.Operand.const (Go.Value.int Go.IntKind.i64 (Int.negSucc 0))), type := 3 }]).seq
        Go.Am.QC.ret)))
theorem q43_ok : bodyComp Tryd.prog 43 = some q43 := by kernel_rfl
noncomputable def q44 : QC :=
  ((Go.Am.QC.plain
        [{ dst := Option.some 2, g := Go.Am.QG.no, op := Go.Op.box 28 (Go.Operand.tmp 0), type := 0 },
          { dst := Option.some 4, g := Go.Am.QG.no,
            op := Go.Op.assign (Go.Operand.const (Go.Value.int Go.IntKind.i64 (Int.ofNat 0))), type := 3 }]).seq
    ((Go.Am.QC.plain
          [{ dst := Option.some 8, g := Go.Am.QG.no, op := Go.Op.move (Go.Operand.tmp 1), type := 3 },
            { dst := Option.some 9, g := Go.Am.QG.no,
              op :=
                Go.Op.binOp Go.BinOp.sub 3 (Go.Operand.tmp 8)
                  (Go.Operand.const (Go.Value.int Go.IntKind.i64 (Int.ofNat 1))) 3,
              type := 3 },
            { dst := Option.some 1, g := Go.Am.QG.no, op := Go.Op.assign (Go.Operand.tmp 9), type := 3 }]).seq
      ((Go.Am.QC.plain
            [{ dst := Option.some 5, g := Go.Am.QG.no,
                op := Go.Op.assign (Go.Operand.const (Go.Value.int Go.IntKind.i64 (Int.ofNat 1))), type := 3 }]).seq
        (((Go.Am.QC.plain
                  [{ dst := Option.some 10, g := Go.Am.QG.no, op := Go.Op.fieldAddr 28 (Go.Operand.tmp 2) 0,
                      type := 0 },
                    { dst := Option.some 11, g := Go.Am.QG.no, op := Go.Op.load 3 (Go.Operand.tmp 10), type := 3 },
                    { dst := Option.some 12, g := Go.Am.QG.no,
                      op :=
                        Go.Op.binOp Go.BinOp.eql 3 (Go.Operand.tmp 11)
                          (Go.Operand.const (Go.Value.int Go.IntKind.i64 (Int.ofNat 9))) 3,
                      type := 4 }]).seq
              (Go.Am.QC.cond (Go.Operand.tmp 12)
                (Go.Am.QC.plain
                  [{ dst := Option.some 13, g := Go.Am.QG.no, op := Go.Op.fieldAddr 28 (Go.Operand.tmp 2) 3,
                      type := 0 },
                    { dst := Option.some 14, g := Go.Am.QG.no, op := Go.Op.load 3 (Go.Operand.tmp 13), type := 3 },
                    { dst := Option.some 5, g := Go.Am.QG.no, op := Go.Op.assign (Go.Operand.tmp 14), type := 3 }])
                Go.Am.QC.skip)).seq
          (((Go.Am.QC.plain
                    [{ dst := Option.some 15, g := Go.Am.QG.no, op := Go.Op.move (Go.Operand.tmp 5), type := 3 },
                      { dst := Option.some 16, g := Go.Am.QG.no,
                        op := Go.Op.move (Go.Operand.const (Go.Value.int Go.IntKind.i64 (Int.ofNat 0))),
                        type := 3 }]).seq
                (Go.Am.QC.block 0
                  ((Go.Am.QC.plain
                          [{ dst := Option.some 17, g := Go.Am.QG.no,
                              op := Go.Op.binOp Go.BinOp.lss 3 (Go.Operand.tmp 16) (Go.Operand.tmp 15) 3,
                              type := 4 }]).seq
                      ((Go.Am.QC.cond (Go.Operand.tmp 17) Go.Am.QC.skip (Go.Am.QC.exit 0)).seq
                        ((Go.Am.QC.block 1
                              ((Go.Am.QC.plain
                                    [{ dst := Option.some 18, g := Go.Am.QG.no,
                                        op := Go.Op.fieldAddr 28 (Go.Operand.tmp 2) 4, type := 0 },
                                      { dst := Option.some 19, g := Go.Am.QG.no,
                                        op := Go.Op.load 26 (Go.Operand.tmp 18), type := 26 },
                                      { dst := Option.some 20, g := Go.Am.QG.no,
                                        op :=
                                          Go.Op.call
                                            { callee := Go.Callee.builtin Go.Builtin.len,
                                              args := { toList := [Go.Operand.tmp 19] },
                                              argTypes := { toList := [26] } },
                                        type := 3 },
                                      { dst := Option.some 21, g := Go.Am.QG.no,
                                        op := Go.Op.move (Go.Operand.const (Go.Value.int Go.IntKind.i64 (Int.ofNat 0))),
                                        type := 3 }]).seq
                                (Go.Am.QC.block 2
                                  ((Go.Am.QC.plain
                                          [{ dst := Option.some 22, g := Go.Am.QG.no,
                                              op :=
                                                Go.Op.binOp Go.BinOp.lss 3 (Go.Operand.tmp 21) (Go.Operand.tmp 20) 3,
                                              type := 0 }]).seq
                                      ((Go.Am.QC.cond (Go.Operand.tmp 22) Go.Am.QC.skip (Go.Am.QC.exit 2)).seq
                                        ((Go.Am.QC.block 3
                                              ((Go.Am.QC.plain
                                                    [{ dst := Option.some 23, g := Go.Am.QG.no,
                                                        op :=
                                                          Go.Op.indexAddr 26 (Go.Operand.tmp 19) (Go.Operand.tmp 21),
                                                        type := 0 },
                                                      { dst := Option.some 24, g := Go.Am.QG.no,
                                                        op := Go.Op.load 28 (Go.Operand.tmp 23), type := 28 },
                                                      { dst := Option.some 7, g := Go.Am.QG.no, op := Go.Op.alloc 28,
                                                        type := 0 },
                                                      { dst := Option.none, g := Go.Am.QG.no,
                                                        op := Go.Op.store 28 (Go.Operand.tmp 7) (Go.Operand.tmp 24),
                                                        type := 0 }]).seq
                                                (((Go.Am.QC.plain
                                                          [{ dst := Option.some 25, g := Go.Am.QG.no,
                                                              op := Go.Op.move (Go.Operand.tmp 1), type := 3 },
                                                            { dst := Option.some 26, g := Go.Am.QG.no,
                                                              op :=
                                                                Go.Op.binOp Go.BinOp.lss 3 (Go.Operand.tmp 25)
                                                                  (Go.Operand.const
                                                                    (Go.Value.int Go.IntKind.i64 (Int.ofNat 0)))
                                                                  3,
                                                              type := 4 }]).seq
                                                      (Go.Am.QC.cond (Go.Operand.tmp 26)
                                                        ((Go.Am.QC.plain
                                                              [{ dst := Option.some 27, g := Go.Am.QG.no,
                                                                  op := Go.Op.move (Go.Operand.tmp 1), type := 3 },
                                                                { dst := Option.some 4, g := Go.Am.QG.no,
                                                                  op := Go.Op.assign (Go.Operand.tmp 27),
                                                                  type := 3 }]).seq
                                                          Go.Am.QC.ret)
                                                        Go.Am.QC.skip)).seq
                                                  (Go.Am.QC.plain
                                                    [{ dst := Option.some 28, g := Go.Am.QG.no,
                                                        op := Go.Op.load 28 (Go.Operand.tmp 7), type := 28 },
                                                      { dst := Option.some 29, g := Go.Am.QG.no,
                                                        op := Go.Op.move (Go.Operand.tmp 1), type := 3 },
                                                      { dst := Option.some 30, g := Go.Am.QG.no,
                                                        op :=
                                                          Go.Op.call
                                                            { callee := Go.Callee.value (Go.Operand.func 44),
                                                              args :=
                                                                { toList := [Go.Operand.tmp 28, Go.Operand.tmp 29] },
                                                              argTypes := { toList := [28, 3] } },
                                                        type := 3 },
                                                      { dst := Option.some 1, g := Go.Am.QG.no,
                                                        op := Go.Op.assign (Go.Operand.tmp 30), type := 3 }])))).seq
                                          (Go.Am.QC.plain
                                            [{ dst := Option.some 31, g := Go.Am.QG.no,
                                                op :=
                                                  Go.Op.binOp Go.BinOp.add 3 (Go.Operand.tmp 21)
                                                    (Go.Operand.const (Go.Value.int Go.IntKind.i64 (Int.ofNat 1))) 3,
                                                type := 3 },
                                              { dst := Option.some 21, g := Go.Am.QG.no,
                                                op := Go.Op.move (Go.Operand.tmp 31), type := 3 }])))).loop))).seq
                          (Go.Am.QC.plain
                            [{ dst := Option.some 32, g := Go.Am.QG.no,
                                op :=
                                  Go.Op.binOp Go.BinOp.add 3 (Go.Operand.tmp 16)
                                    (Go.Operand.const (Go.Value.int Go.IntKind.i64 (Int.ofNat 1))) 3,
                                type := 3 },
                              { dst := Option.some 16, g := Go.Am.QG.no, op := Go.Op.move (Go.Operand.tmp 32),
                                type := 3 }])))).loop)).seq
            ((Go.Am.QC.plain
                  [{ dst := Option.some 33, g := Go.Am.QG.no, op := Go.Op.move (Go.Operand.tmp 1), type := 3 },
                    { dst := Option.some 4, g := Go.Am.QG.no, op := Go.Op.assign (Go.Operand.tmp 33), type := 3 }]).seq
              Go.Am.QC.ret))))))
theorem q44_ok : bodyComp Tryd.prog 44 = some q44 := by kernel_rfl
noncomputable def q45 : QC :=
  ((Go.Am.QC.plain
        [{ dst := Option.some 2, g := Go.Am.QG.no, op := Go.Op.box 28 (Go.Operand.tmp 0), type := 0 },
          { dst := Option.some 4, g := Go.Am.QG.no,
            op := Go.Op.assign (Go.Operand.const (Go.Value.int Go.IntKind.i64 (Int.ofNat 0))), type := 3 }]).seq
    ((Go.Am.QC.plain
          [{ dst := Option.some 7, g := Go.Am.QG.no, op := Go.Op.move (Go.Operand.tmp 1), type := 3 },
            { dst := Option.some 8, g := Go.Am.QG.no,
              op :=
                Go.Op.binOp Go.BinOp.add 3 (Go.Operand.tmp 7)
                  (Go.Operand.const (Go.Value.int Go.IntKind.i64 (Int.ofNat 1))) 3,
              type := 3 },
            { dst := Option.some 9, g := Go.Am.QG.no,
              op :=
                Go.Op.call
                  { callee := Go.Callee.builtin Go.Builtin.min,
                    args :=
                      { toList := [Go.Operand.tmp 8, Go.Operand.const (Go.Value.int Go.IntKind.i64 (Int.ofNat 1024))] },
                    argTypes := { toList := [3, 3] } },
              type := 3 },
            { dst := Option.some 5, g := Go.Am.QG.no, op := Go.Op.assign (Go.Operand.tmp 9), type := 3 }]).seq
      ((Go.Am.QC.plain
            [{ dst := Option.some 10, g := Go.Am.QG.no, op := Go.Op.load 28 (Go.Operand.tmp 2), type := 28 },
              { dst := Option.some 11, g := Go.Am.QG.no,
                op :=
                  Go.Op.call
                    { callee := Go.Callee.value (Go.Operand.func 59), args := { toList := [Go.Operand.tmp 10] },
                      argTypes := { toList := [28] } },
                type := 3 },
              { dst := Option.some 6, g := Go.Am.QG.no, op := Go.Op.assign (Go.Operand.tmp 11), type := 3 }]).seq
        ((Go.Am.QC.plain
              [{ dst := Option.some 12, g := Go.Am.QG.no, op := Go.Op.move (Go.Operand.tmp 6), type := 3 },
                { dst := Option.some 13, g := Go.Am.QG.no, op := Go.Op.move (Go.Operand.tmp 6), type := 3 },
                { dst := Option.some 14, g := Go.Am.QG.no, op := Go.Op.move (Go.Operand.tmp 5), type := 3 },
                { dst := Option.some 15, g := Go.Am.QG.no,
                  op := Go.Op.binOp Go.BinOp.mul 3 (Go.Operand.tmp 13) (Go.Operand.tmp 14) 3, type := 3 },
                { dst := Option.some 16, g := Go.Am.QG.no, op := Go.Op.move (Go.Operand.tmp 5), type := 3 },
                { dst := Option.some 17, g := Go.Am.QG.no,
                  op := Go.Op.binOp Go.BinOp.mul 3 (Go.Operand.tmp 15) (Go.Operand.tmp 16) 3, type := 3 },
                { dst := Option.some 18, g := Go.Am.QG.no,
                  op :=
                    Go.Op.binOp Go.BinOp.quo 3 (Go.Operand.tmp 17)
                      (Go.Operand.const (Go.Value.int Go.IntKind.i64 (Int.ofNat 8))) 3,
                  type := 3 },
                { dst := Option.some 19, g := Go.Am.QG.no,
                  op :=
                    Go.Op.call
                      { callee := Go.Callee.builtin Go.Builtin.min,
                        args :=
                          {
                            toList :=
                              [Go.Operand.tmp 18, Go.Operand.const (Go.Value.int Go.IntKind.i64 (Int.ofNat 1048576))] },
                        argTypes := { toList := [3, 3] } },
                  type := 3 },
                { dst := Option.some 20, g := Go.Am.QG.no,
                  op := Go.Op.binOp Go.BinOp.add 3 (Go.Operand.tmp 12) (Go.Operand.tmp 19) 3, type := 3 },
                { dst := Option.some 4, g := Go.Am.QG.no, op := Go.Op.assign (Go.Operand.tmp 20), type := 3 }]).seq
          Go.Am.QC.ret))))
theorem q45_ok : bodyComp Tryd.prog 45 = some q45 := by kernel_rfl
noncomputable def q47 : QC :=
  ((Go.Am.QC.plain
        [{ dst := Option.some 1, g := Go.Am.QG.no, op := Go.Op.box 28 (Go.Operand.tmp 0), type := 0 },
          { dst := Option.some 2, g := Go.Am.QG.no,
            op := Go.Op.assign (Go.Operand.const (Go.Value.pointer Option.none)), type := 73 }]).seq
    ((Go.Am.QC.plain
          [{ dst := Option.some 4, g := Go.Am.QG.no, op := Go.Op.build 92 { toList := [] }, type := 92 },
            { dst := Option.some 5, g := Go.Am.QG.no, op := Go.Op.box 92 (Go.Operand.tmp 4), type := 73 },
            { dst := Option.some 3, g := Go.Am.QG.no, op := Go.Op.assign (Go.Operand.tmp 5), type := 73 }]).seq
      ((Go.Am.QC.plain
            [{ dst := Option.some 6, g := Go.Am.QG.no, op := Go.Op.move (Go.Operand.tmp 3), type := 73 },
              { dst := Option.some 7, g := Go.Am.QG.no, op := Go.Op.move (Go.Operand.tmp 3), type := 73 },
              { dst := Option.some 8, g := Go.Am.QG.no,
                op :=
                  Go.Op.call
                    { callee := Go.Callee.value (Go.Operand.func 62),
                      args := { toList := [Go.Operand.tmp 7, Go.Operand.const (Go.Value.slice Option.none 0 0)] },
                      argTypes := { toList := [73, 23] } },
                type := 3 },
              { dst := Option.some 9, g := Go.Am.QG.no, op := Go.Op.nilCheck (Go.Operand.tmp 6), type := 0 },
              { dst := Option.some 10, g := Go.Am.QG.no, op := Go.Op.fieldAddr 92 (Go.Operand.tmp 9) 2, type := 0 },
              { dst := Option.none, g := Go.Am.QG.no, op := Go.Op.store 3 (Go.Operand.tmp 10) (Go.Operand.tmp 8),
                type := 0 }]).seq
        ((Go.Am.QC.plain
              [{ dst := Option.some 11, g := Go.Am.QG.no, op := Go.Op.move (Go.Operand.tmp 3), type := 73 },
                { dst := Option.some 12, g := Go.Am.QG.no, op := Go.Op.move (Go.Operand.tmp 3), type := 73 },
                { dst := Option.some 13, g := Go.Am.QG.no, op := Go.Op.load 28 (Go.Operand.tmp 1), type := 28 },
                { dst := Option.some 14, g := Go.Am.QG.no, op := Go.Op.move (Go.Operand.tmp 3), type := 73 },
                { dst := Option.some 15, g := Go.Am.QG.no, op := Go.Op.nilCheck (Go.Operand.tmp 14), type := 0 },
                { dst := Option.some 16, g := Go.Am.QG.no, op := Go.Op.fieldAddr 92 (Go.Operand.tmp 15) 2, type := 0 },
                { dst := Option.some 17, g := Go.Am.QG.no, op := Go.Op.load 3 (Go.Operand.tmp 16), type := 3 },
                { dst := Option.some 18, g := Go.Am.QG.no,
                  op :=
                    Go.Op.call
                      { callee := Go.Callee.value (Go.Operand.func 63),
                        args := { toList := [Go.Operand.tmp 12, Go.Operand.tmp 13, Go.Operand.tmp 17] },
                        argTypes := { toList := [73, 28, 3] } },
                  type := 3 },
                { dst := Option.some 19, g := Go.Am.QG.no, op := Go.Op.nilCheck (Go.Operand.tmp 11), type := 0 },
                { dst := Option.some 20, g := Go.Am.QG.no, op := Go.Op.fieldAddr 92 (Go.Operand.tmp 19) 1, type := 0 },
                { dst := Option.none, g := Go.Am.QG.no, op := Go.Op.store 3 (Go.Operand.tmp 20) (Go.Operand.tmp 18),
                  type := 0 }]).seq
          ((Go.Am.QC.plain
                [{ dst := Option.some 21, g := Go.Am.QG.no, op := Go.Op.move (Go.Operand.tmp 3), type := 73 },
                  { dst := Option.some 2, g := Go.Am.QG.no, op := Go.Op.assign (Go.Operand.tmp 21), type := 73 }]).seq
            Go.Am.QC.ret)))))
theorem q47_ok : bodyComp Tryd.prog 47 = some q47 := by kernel_rfl
noncomputable def q48 : QC :=
  ((Go.Am.QC.plain
        [{ dst := Option.some 4, g := Go.Am.QG.no, op := Go.Op.assign (Go.Operand.const (Go.Value.bool Bool.false)),
            type := 4 }]).seq
    ((Go.Am.QC.drawn
          {
            toList :=
              [{ dst := Option.some 8, op := Go.Op.move (Go.Operand.tmp 0), type := 73, pos := "machine.go:93",
                  after := { toList := [] }, guard := Option.none },
                { dst := Option.some 9, op := Go.Op.nilCheck (Go.Operand.tmp 8), type := 0, pos := "machine.go:93",
                  after := { toList := [{ on := 0, ground := Go.Ground.data }] }, guard := Option.none },
                { dst := Option.some 10, op := Go.Op.fieldAddr 92 (Go.Operand.tmp 9) 0, type := 0,
                  pos := "machine.go:93", after := { toList := [{ on := 1, ground := Go.Ground.data }] },
                  guard := Option.none },
                { dst := Option.some 11, op := Go.Op.load 90 (Go.Operand.tmp 10), type := 90, pos := "machine.go:93",
                  after := { toList := [{ on := 2, ground := Go.Ground.data }] }, guard := Option.none },
                { dst := Option.some 12, op := Go.Op.move (Go.Operand.tmp 0), type := 73, pos := "machine.go:93",
                  after := { toList := [] }, guard := Option.none },
                { dst := Option.some 13, op := Go.Op.nilCheck (Go.Operand.tmp 12), type := 0, pos := "machine.go:93",
                  after := { toList := [{ on := 4, ground := Go.Ground.data }] }, guard := Option.none },
                { dst := Option.some 14, op := Go.Op.fieldAddr 92 (Go.Operand.tmp 13) 0, type := 0,
                  pos := "machine.go:93", after := { toList := [{ on := 5, ground := Go.Ground.data }] },
                  guard := Option.none },
                { dst := Option.some 15, op := Go.Op.load 90 (Go.Operand.tmp 14), type := 90, pos := "machine.go:93",
                  after := { toList := [{ on := 6, ground := Go.Ground.data }] }, guard := Option.none },
                { dst := Option.some 16,
                  op :=
                    Go.Op.call
                      { callee := Go.Callee.builtin Go.Builtin.len, args := { toList := [Go.Operand.tmp 15] },
                        argTypes := { toList := [90] } },
                  type := 3, pos := "machine.go:93", after := { toList := [{ on := 7, ground := Go.Ground.data }] },
                  guard := Option.none },
                { dst := Option.some 17, op := Go.Op.makeSlice 23 (Go.Operand.tmp 16) (Go.Operand.tmp 16), type := 23,
                  pos := "machine.go:93",
                  after := { toList := [{ on := 8, ground := Go.Ground.data }, { on := 8, ground := Go.Ground.data }] },
                  guard := Option.none },
                { dst := Option.some 18,
                  op :=
                    Go.Op.build 96
                      {
                        toList :=
                          [(0, Go.Operand.tmp 11), (3, Go.Operand.const (Go.Value.int Go.IntKind.i64 (Int.ofNat 1))),
                            (4, Go.Operand.tmp 17)] },
                  type := 96, pos := "machine.go:93",
                  after := { toList := [{ on := 3, ground := Go.Ground.data }, { on := 9, ground := Go.Ground.data }] },
                  guard := Option.none },
                { dst := Option.some 19, op := Go.Op.box 96 (Go.Operand.tmp 18), type := 94, pos := "machine.go:93",
                  after := { toList := [{ on := 10, ground := Go.Ground.data }] }, guard := Option.none },
                { dst := Option.some 5, op := Go.Op.assign (Go.Operand.tmp 19), type := 94, pos := "machine.go:93",
                  after :=
                    {
                      toList :=
                        [{ on := 11, ground := Go.Ground.data }, { on := 0, ground := Go.Ground.phase },
                          { on := 1, ground := Go.Ground.phase }, { on := 2, ground := Go.Ground.phase },
                          { on := 3, ground := Go.Ground.phase }, { on := 4, ground := Go.Ground.phase },
                          { on := 5, ground := Go.Ground.phase }, { on := 6, ground := Go.Ground.phase },
                          { on := 7, ground := Go.Ground.phase }, { on := 8, ground := Go.Ground.phase },
                          { on := 9, ground := Go.Ground.phase }, { on := 10, ground := Go.Ground.phase },
                          { on := 11, ground := Go.Ground.phase }] },
                  guard := Option.none }] }).seq
      ((Go.Am.QC.plain
            [{ dst := Option.some 20, g := Go.Am.QG.no, op := Go.Op.move (Go.Operand.tmp 5), type := 94 },
              { dst := Option.some 21, g := Go.Am.QG.no, op := Go.Op.move (Go.Operand.tmp 0), type := 73 },
              { dst := Option.some 22, g := Go.Am.QG.no, op := Go.Op.nilCheck (Go.Operand.tmp 21), type := 0 },
              { dst := Option.some 23, g := Go.Am.QG.no, op := Go.Op.fieldAddr 92 (Go.Operand.tmp 22) 1, type := 0 },
              { dst := Option.some 24, g := Go.Am.QG.no, op := Go.Op.load 3 (Go.Operand.tmp 23), type := 3 },
              { dst := Option.some 25, g := Go.Am.QG.no,
                op := Go.Op.buildSlice 23 1 { toList := [(0, Go.Operand.tmp 24)] }, type := 23 },
              { dst := Option.some 26, g := Go.Am.QG.no,
                op :=
                  Go.Op.call
                    { callee := Go.Callee.value (Go.Operand.func 64),
                      args := { toList := [Go.Operand.tmp 20, Go.Operand.tmp 25] },
                      argTypes := { toList := [94, 23] } },
                type := 0 }]).seq
        ((Go.Am.QC.plain
              [{ dst := Option.some 27, g := Go.Am.QG.no, op := Go.Op.move (Go.Operand.tmp 5), type := 94 },
                { dst := Option.some 28, g := Go.Am.QG.no,
                  op :=
                    Go.Op.call
                      { callee := Go.Callee.value (Go.Operand.func 65), args := { toList := [Go.Operand.tmp 27] },
                        argTypes := { toList := [94] } },
                  type := 0 }]).seq
          (((Go.Am.QC.plain
                    [{ dst := Option.some 29, g := Go.Am.QG.no, op := Go.Op.move (Go.Operand.tmp 1), type := 23 },
                      { dst := Option.some 30, g := Go.Am.QG.no,
                        op :=
                          Go.Op.call
                            { callee := Go.Callee.builtin Go.Builtin.len, args := { toList := [Go.Operand.tmp 29] },
                              argTypes := { toList := [23] } },
                        type := 3 },
                      { dst := Option.some 31, g := Go.Am.QG.no,
                        op := Go.Op.move (Go.Operand.const (Go.Value.int Go.IntKind.i64 (Int.ofNat 0))),
                        type := 3 }]).seq
                (Go.Am.QC.block 0
                  ((Go.Am.QC.plain
                          [{ dst := Option.some 32, g := Go.Am.QG.no,
                              op := Go.Op.binOp Go.BinOp.lss 3 (Go.Operand.tmp 31) (Go.Operand.tmp 30) 3,
                              type := 0 }]).seq
                      ((Go.Am.QC.cond (Go.Operand.tmp 32) Go.Am.QC.skip (Go.Am.QC.exit 0)).seq
                        ((Go.Am.QC.block 1
                              ((Go.Am.QC.plain
                                    [{ dst := Option.some 33, g := Go.Am.QG.no,
                                        op := Go.Op.indexAddr 23 (Go.Operand.tmp 29) (Go.Operand.tmp 31), type := 0 },
                                      { dst := Option.some 34, g := Go.Am.QG.no, op := Go.Op.load 3 (Go.Operand.tmp 33),
                                        type := 3 },
                                      { dst := Option.some 7, g := Go.Am.QG.no, op := Go.Op.assign (Go.Operand.tmp 34),
                                        type := 3 }]).seq
                                (Go.Am.QC.plain
                                  [{ dst := Option.some 35, g := Go.Am.QG.no, op := Go.Op.move (Go.Operand.tmp 5),
                                      type := 94 },
                                    { dst := Option.some 36, g := Go.Am.QG.no, op := Go.Op.move (Go.Operand.tmp 7),
                                      type := 3 },
                                    { dst := Option.some 37, g := Go.Am.QG.no,
                                      op :=
                                        Go.Op.call
                                          { callee := Go.Callee.value (Go.Operand.func 66),
                                            args := { toList := [Go.Operand.tmp 35, Go.Operand.tmp 36] },
                                            argTypes := { toList := [94, 3] } },
                                      type := 0 }]))).seq
                          (Go.Am.QC.plain
                            [{ dst := Option.some 38, g := Go.Am.QG.no,
                                op :=
                                  Go.Op.binOp Go.BinOp.add 3 (Go.Operand.tmp 31)
                                    (Go.Operand.const (Go.Value.int Go.IntKind.i64 (Int.ofNat 1))) 3,
                                type := 3 },
                              { dst := Option.some 31, g := Go.Am.QG.no, op := Go.Op.move (Go.Operand.tmp 38),
                                type := 3 }])))).loop)).seq
            ((Go.Am.QC.plain
                  [{ dst := Option.some 39, g := Go.Am.QG.no, op := Go.Op.move (Go.Operand.tmp 5), type := 94 },
                    { dst := Option.some 40, g := Go.Am.QG.no, op := Go.Op.nilCheck (Go.Operand.tmp 39), type := 0 },
                    { dst := Option.some 41, g := Go.Am.QG.no, op := Go.Op.fieldAddr 96 (Go.Operand.tmp 40) 4,
                      type := 0 },
                    { dst := Option.some 42, g := Go.Am.QG.no, op := Go.Op.load 23 (Go.Operand.tmp 41), type := 23 },
                    { dst := Option.some 43, g := Go.Am.QG.no, op := Go.Op.move (Go.Operand.tmp 0), type := 73 },
                    { dst := Option.some 44, g := Go.Am.QG.no, op := Go.Op.nilCheck (Go.Operand.tmp 43), type := 0 },
                    { dst := Option.some 45, g := Go.Am.QG.no, op := Go.Op.fieldAddr 92 (Go.Operand.tmp 44) 2,
                      type := 0 },
                    { dst := Option.some 46, g := Go.Am.QG.no, op := Go.Op.load 3 (Go.Operand.tmp 45), type := 3 },
                    { dst := Option.some 47, g := Go.Am.QG.no,
                      op := Go.Op.indexAddr 23 (Go.Operand.tmp 42) (Go.Operand.tmp 46), type := 0 },
                    { dst := Option.some 48, g := Go.Am.QG.no, op := Go.Op.load 3 (Go.Operand.tmp 47), type := 3 },
                    { dst := Option.some 49, g := Go.Am.QG.no, op := Go.Op.move (Go.Operand.tmp 5), type := 94 },
                    { dst := Option.some 50, g := Go.Am.QG.no, op := Go.Op.nilCheck (Go.Operand.tmp 49), type := 0 },
                    { dst := Option.some 51, g := Go.Am.QG.no, op := Go.Op.fieldAddr 96 (Go.Operand.tmp 50) 3,
                      type := 0 },
                    { dst := Option.some 52, g := Go.Am.QG.no, op := Go.Op.load 3 (Go.Operand.tmp 51), type := 3 },
                    { dst := Option.some 53, g := Go.Am.QG.no,
                      op := Go.Op.binOp Go.BinOp.eql 3 (Go.Operand.tmp 48) (Go.Operand.tmp 52) 3, type := 4 },
                    { dst := Option.some 4, g := Go.Am.QG.no, op := Go.Op.assign (Go.Operand.tmp 53), type := 4 }]).seq
              Go.Am.QC.ret))))))
theorem q48_ok : bodyComp Tryd.prog 48 = some q48 := by kernel_rfl
noncomputable def q52 : QC :=
  ((Go.Am.QC.plain
        [{ dst := Option.some 4, g := Go.Am.QG.no, op := Go.Op.assign (Go.Operand.const (Go.Value.bool Bool.false)),
            type := 4 }]).seq
    ((Go.Am.QC.plain
          [{ dst := Option.some 5, g := Go.Am.QG.no, op := Go.Op.move (Go.Operand.tmp 0), type := 26 },
            { dst := Option.some 6, g := Go.Am.QG.no, op := Go.Op.move (Go.Operand.tmp 1), type := 32 },
            { dst := Option.some 7, g := Go.Am.QG.no,
              op :=
                Go.Op.call
                  { callee := Go.Callee.value (Go.Operand.func 67),
                    args := { toList := [Go.Operand.tmp 5, Go.Operand.tmp 6] }, argTypes := { toList := [26, 32] } },
              type := 3 },
            { dst := Option.some 8, g := Go.Am.QG.no,
              op :=
                Go.Op.binOp Go.BinOp.geq 3 (Go.Operand.tmp 7)
                  (Go.Operand.const (Go.Value.int Go.IntKind.i64 (Int.ofNat 0))) 3,
              type := 4 },
            { dst := Option.some 4, g := Go.Am.QG.no, op := Go.Op.assign (Go.Operand.tmp 8), type := 4 }]).seq
      Go.Am.QC.ret))
theorem q52_ok : bodyComp Tryd.prog 52 = some q52 := by kernel_rfl
noncomputable def q53 : QC :=
  ((Go.Am.QC.plain
        [{ dst := Option.some 1, g := Go.Am.QG.no, op := Go.Op.box 28 (Go.Operand.tmp 0), type := 0 },
          { dst := Option.some 2, g := Go.Am.QG.no, op := Go.Op.assign (Go.Operand.const (Go.Value.bool Bool.false)),
            type := 4 }]).seq
    ((Go.Am.QC.plain
          [{ dst := Option.some 3, g := Go.Am.QG.no, op := Go.Op.load 28 (Go.Operand.tmp 1), type := 28 },
            { dst := Option.some 4, g := Go.Am.QG.no,
              op :=
                Go.Op.call
                  { callee := Go.Callee.value (Go.Operand.func 36), args := { toList := [Go.Operand.tmp 3] },
                    argTypes := { toList := [28] } },
              type := 4 },
            { dst := Option.some 5, g := Go.Am.QG.no, op := Go.Op.unOp Go.UnOp.not 4 (Go.Operand.tmp 4), type := 4 },
            { dst := Option.some 2, g := Go.Am.QG.no, op := Go.Op.assign (Go.Operand.tmp 5), type := 4 }]).seq
      Go.Am.QC.ret))
theorem q53_ok : bodyComp Tryd.prog 53 = some q53 := by kernel_rfl
noncomputable def q57 : QC :=
  ((Go.Am.QC.plain
        [{ dst := Option.some 1, g := Go.Am.QG.no, op := Go.Op.box 28 (Go.Operand.tmp 0), type := 0 },
          { dst := Option.some 2, g := Go.Am.QG.no, op := Go.Op.assign (Go.Operand.const (Go.Value.bool Bool.false)),
            type := 4 }]).seq
    ((Go.Am.QC.plain
          [{ dst := Option.some 3, g := Go.Am.QG.no, op := Go.Op.fieldAddr 28 (Go.Operand.tmp 1) 1, type := 0 },
            { dst := Option.some 4, g := Go.Am.QG.no, op := Go.Op.load 3 (Go.Operand.tmp 3), type := 3 },
            { dst := Option.some 5, g := Go.Am.QG.no,
              op :=
                Go.Op.binOp Go.BinOp.eql 3 (Go.Operand.tmp 4)
                  (Go.Operand.const (Go.Value.int Go.IntKind.i64 (Int.ofNat 0))) 3,
              type := 4 },
            { dst := Option.some 6, g := Go.Am.QG.no, op := Go.Op.move (Go.Operand.tmp 5), type := 4 },
            { dst := Option.some 7, g := Go.Am.QG.at 6 Bool.true, op := Go.Op.fieldAddr 28 (Go.Operand.tmp 1) 2,
              type := 0 },
            { dst := Option.some 8, g := Go.Am.QG.at 6 Bool.true, op := Go.Op.load 3 (Go.Operand.tmp 7), type := 3 },
            { dst := Option.some 9, g := Go.Am.QG.at 6 Bool.true,
              op :=
                Go.Op.binOp Go.BinOp.eql 3 (Go.Operand.tmp 8)
                  (Go.Operand.const (Go.Value.int Go.IntKind.i64 (Int.ofNat 0))) 3,
              type := 4 },
            { dst := Option.some 10, g := Go.Am.QG.no,
              op := Go.Op.pick (Go.Operand.tmp 6) (Go.Operand.tmp 9) (Go.Operand.const (Go.Value.bool Bool.false)),
              type := 4 },
            { dst := Option.some 11, g := Go.Am.QG.no, op := Go.Op.move (Go.Operand.tmp 10), type := 4 },
            { dst := Option.some 12, g := Go.Am.QG.at 11 Bool.true, op := Go.Op.fieldAddr 28 (Go.Operand.tmp 1) 3,
              type := 0 },
            { dst := Option.some 13, g := Go.Am.QG.at 11 Bool.true, op := Go.Op.load 3 (Go.Operand.tmp 12), type := 3 },
            { dst := Option.some 14, g := Go.Am.QG.at 11 Bool.true,
              op :=
                Go.Op.binOp Go.BinOp.eql 3 (Go.Operand.tmp 13)
                  (Go.Operand.const (Go.Value.int Go.IntKind.i64 (Int.ofNat 0))) 3,
              type := 4 },
            { dst := Option.some 15, g := Go.Am.QG.no,
              op := Go.Op.pick (Go.Operand.tmp 11) (Go.Operand.tmp 14) (Go.Operand.const (Go.Value.bool Bool.false)),
              type := 4 },
            { dst := Option.some 2, g := Go.Am.QG.no, op := Go.Op.assign (Go.Operand.tmp 15), type := 4 }]).seq
      Go.Am.QC.ret))
theorem q57_ok : bodyComp Tryd.prog 57 = some q57 := by kernel_rfl
noncomputable def q58 : QC :=
  ((Go.Am.QC.plain
        [{ dst := Option.some 4, g := Go.Am.QG.no, op := Go.Op.assign (Go.Operand.const (Go.Value.bool Bool.false)),
            type := 4 }]).seq
    ((Go.Am.QC.plain
          [{ dst := Option.some 5, g := Go.Am.QG.no, op := Go.Op.move (Go.Operand.tmp 0), type := 3 },
            { dst := Option.some 6, g := Go.Am.QG.no,
              op :=
                Go.Op.binOp Go.BinOp.leq 3 (Go.Operand.const (Go.Value.int Go.IntKind.i64 (Int.ofNat 0)))
                  (Go.Operand.tmp 5) 3,
              type := 4 },
            { dst := Option.some 7, g := Go.Am.QG.no, op := Go.Op.move (Go.Operand.tmp 6), type := 4 },
            { dst := Option.some 8, g := Go.Am.QG.at 7 Bool.true, op := Go.Op.move (Go.Operand.tmp 0), type := 3 },
            { dst := Option.some 9, g := Go.Am.QG.at 7 Bool.true, op := Go.Op.move (Go.Operand.tmp 1), type := 3 },
            { dst := Option.some 10, g := Go.Am.QG.at 7 Bool.true,
              op := Go.Op.binOp Go.BinOp.leq 3 (Go.Operand.tmp 8) (Go.Operand.tmp 9) 3, type := 4 },
            { dst := Option.some 11, g := Go.Am.QG.no,
              op := Go.Op.pick (Go.Operand.tmp 7) (Go.Operand.tmp 10) (Go.Operand.const (Go.Value.bool Bool.false)),
              type := 4 },
            { dst := Option.some 12, g := Go.Am.QG.no, op := Go.Op.move (Go.Operand.tmp 11), type := 4 },
            { dst := Option.some 13, g := Go.Am.QG.at 12 Bool.true, op := Go.Op.move (Go.Operand.tmp 1), type := 3 },
            { dst := Option.some 14, g := Go.Am.QG.at 12 Bool.true,
              op :=
                Go.Op.binOp Go.BinOp.leq 3 (Go.Operand.tmp 13)
                  (Go.Operand.const (Go.Value.int Go.IntKind.i64 (Int.ofNat 9))) 3,
              type := 4 },
            { dst := Option.some 15, g := Go.Am.QG.no,
              op := Go.Op.pick (Go.Operand.tmp 12) (Go.Operand.tmp 14) (Go.Operand.const (Go.Value.bool Bool.false)),
              type := 4 },
            { dst := Option.some 4, g := Go.Am.QG.no, op := Go.Op.assign (Go.Operand.tmp 15), type := 4 }]).seq
      Go.Am.QC.ret))
theorem q58_ok : bodyComp Tryd.prog 58 = some q58 := by kernel_rfl
noncomputable def q59 : QC :=
  ((Go.Am.QC.plain
        [{ dst := Option.some 1, g := Go.Am.QG.no, op := Go.Op.box 28 (Go.Operand.tmp 0), type := 0 },
          { dst := Option.some 2, g := Go.Am.QG.no,
            op := Go.Op.assign (Go.Operand.const (Go.Value.int Go.IntKind.i64 (Int.ofNat 0))), type := 3 }]).seq
    ((Go.Am.QC.plain
          [{ dst := Option.some 3, g := Go.Am.QG.no,
              op := Go.Op.assign (Go.Operand.const (Go.Value.int Go.IntKind.i64 (Int.ofNat 1))), type := 3 }]).seq
      (((Go.Am.QC.plain
                [{ dst := Option.some 6, g := Go.Am.QG.no, op := Go.Op.fieldAddr 28 (Go.Operand.tmp 1) 4, type := 0 },
                  { dst := Option.some 7, g := Go.Am.QG.no, op := Go.Op.load 26 (Go.Operand.tmp 6), type := 26 },
                  { dst := Option.some 8, g := Go.Am.QG.no,
                    op :=
                      Go.Op.call
                        { callee := Go.Callee.builtin Go.Builtin.len, args := { toList := [Go.Operand.tmp 7] },
                          argTypes := { toList := [26] } },
                    type := 3 },
                  { dst := Option.some 9, g := Go.Am.QG.no,
                    op := Go.Op.move (Go.Operand.const (Go.Value.int Go.IntKind.i64 (Int.ofNat 0))), type := 3 }]).seq
            (Go.Am.QC.block 0
              ((Go.Am.QC.plain
                      [{ dst := Option.some 10, g := Go.Am.QG.no,
                          op := Go.Op.binOp Go.BinOp.lss 3 (Go.Operand.tmp 9) (Go.Operand.tmp 8) 3, type := 0 }]).seq
                  ((Go.Am.QC.cond (Go.Operand.tmp 10) Go.Am.QC.skip (Go.Am.QC.exit 0)).seq
                    ((Go.Am.QC.block 1
                          ((Go.Am.QC.plain
                                [{ dst := Option.some 11, g := Go.Am.QG.no,
                                    op := Go.Op.indexAddr 26 (Go.Operand.tmp 7) (Go.Operand.tmp 9), type := 0 },
                                  { dst := Option.some 12, g := Go.Am.QG.no, op := Go.Op.load 28 (Go.Operand.tmp 11),
                                    type := 28 },
                                  { dst := Option.some 5, g := Go.Am.QG.no, op := Go.Op.alloc 28, type := 0 },
                                  { dst := Option.none, g := Go.Am.QG.no,
                                    op := Go.Op.store 28 (Go.Operand.tmp 5) (Go.Operand.tmp 12), type := 0 }]).seq
                            (Go.Am.QC.plain
                              [{ dst := Option.some 13, g := Go.Am.QG.no, op := Go.Op.move (Go.Operand.tmp 3),
                                  type := 3 },
                                { dst := Option.some 14, g := Go.Am.QG.no, op := Go.Op.load 28 (Go.Operand.tmp 5),
                                  type := 28 },
                                { dst := Option.some 15, g := Go.Am.QG.no,
                                  op :=
                                    Go.Op.call
                                      { callee := Go.Callee.value (Go.Operand.func 59),
                                        args := { toList := [Go.Operand.tmp 14] }, argTypes := { toList := [28] } },
                                  type := 3 },
                                { dst := Option.some 16, g := Go.Am.QG.no,
                                  op := Go.Op.binOp Go.BinOp.add 3 (Go.Operand.tmp 13) (Go.Operand.tmp 15) 3,
                                  type := 3 },
                                { dst := Option.some 3, g := Go.Am.QG.no, op := Go.Op.assign (Go.Operand.tmp 16),
                                  type := 3 }]))).seq
                      (Go.Am.QC.plain
                        [{ dst := Option.some 17, g := Go.Am.QG.no,
                            op :=
                              Go.Op.binOp Go.BinOp.add 3 (Go.Operand.tmp 9)
                                (Go.Operand.const (Go.Value.int Go.IntKind.i64 (Int.ofNat 1))) 3,
                            type := 3 },
                          { dst := Option.some 9, g := Go.Am.QG.no, op := Go.Op.move (Go.Operand.tmp 17),
                            type := 3 }])))).loop)).seq
        ((Go.Am.QC.plain
              [{ dst := Option.some 18, g := Go.Am.QG.no, op := Go.Op.move (Go.Operand.tmp 3), type := 3 },
                { dst := Option.some 2, g := Go.Am.QG.no, op := Go.Op.assign (Go.Operand.tmp 18), type := 3 }]).seq
          Go.Am.QC.ret))))
theorem q59_ok : bodyComp Tryd.prog 59 = some q59 := by kernel_rfl
noncomputable def q62 : QC :=
  ((Go.Am.QC.plain
        [{ dst := Option.some 4, g := Go.Am.QG.no,
            op := Go.Op.assign (Go.Operand.const (Go.Value.int Go.IntKind.i64 (Int.ofNat 0))), type := 3 }]).seq
    ((Go.Am.QC.plain
          [{ dst := Option.some 5, g := Go.Am.QG.no, op := Go.Op.move (Go.Operand.tmp 0), type := 73 },
            { dst := Option.some 6, g := Go.Am.QG.no, op := Go.Op.move (Go.Operand.tmp 1), type := 23 },
            { dst := Option.some 7, g := Go.Am.QG.no, op := Go.Op.build 111 { toList := [(1, Go.Operand.tmp 6)] },
              type := 111 },
            { dst := Option.some 8, g := Go.Am.QG.no,
              op :=
                Go.Op.call
                  { callee := Go.Callee.value (Go.Operand.func 78),
                    args := { toList := [Go.Operand.tmp 5, Go.Operand.tmp 7] }, argTypes := { toList := [73, 111] } },
              type := 3 },
            { dst := Option.some 4, g := Go.Am.QG.no, op := Go.Op.assign (Go.Operand.tmp 8), type := 3 }]).seq
      Go.Am.QC.ret))
theorem q62_ok : bodyComp Tryd.prog 62 = some q62 := by kernel_rfl
noncomputable def q63 : QC :=
  ((Go.Am.QC.plain
        [{ dst := Option.some 4, g := Go.Am.QG.no, op := Go.Op.box 28 (Go.Operand.tmp 1), type := 0 },
          { dst := Option.some 6, g := Go.Am.QG.no,
            op := Go.Op.assign (Go.Operand.const (Go.Value.int Go.IntKind.i64 (Int.ofNat 0))), type := 3 }]).seq
    (((Go.Am.QC.plain
              [{ dst := Option.some 12, g := Go.Am.QG.no, op := Go.Op.fieldAddr 28 (Go.Operand.tmp 4) 0, type := 0 },
                { dst := Option.some 13, g := Go.Am.QG.no, op := Go.Op.load 3 (Go.Operand.tmp 12), type := 3 }]).seq
          (Go.Am.QC.block 0
            ((Go.Am.QC.plain
                  [{ dst := Option.some 15, g := Go.Am.QG.no,
                      op :=
                        Go.Op.binOp Go.BinOp.eql 3 (Go.Operand.tmp 13)
                          (Go.Operand.const (Go.Value.int Go.IntKind.i64 (Int.ofNat 1))) 3,
                      type := 4 },
                    { dst := Option.some 14, g := Go.Am.QG.no, op := Go.Op.assign (Go.Operand.tmp 15), type := 4 }]).seq
              (Go.Am.QC.cond (Go.Operand.tmp 14)
                ((Go.Am.QC.plain
                      [{ dst := Option.some 16, g := Go.Am.QG.no, op := Go.Op.move (Go.Operand.tmp 0), type := 73 },
                        { dst := Option.some 17, g := Go.Am.QG.no, op := Go.Op.fieldAddr 28 (Go.Operand.tmp 4) 1,
                          type := 0 },
                        { dst := Option.some 18, g := Go.Am.QG.no, op := Go.Op.load 3 (Go.Operand.tmp 17), type := 3 },
                        { dst := Option.some 19, g := Go.Am.QG.no, op := Go.Op.move (Go.Operand.tmp 2), type := 3 },
                        { dst := Option.some 20, g := Go.Am.QG.no,
                          op := Go.Op.buildSlice 23 1 { toList := [(0, Go.Operand.tmp 19)] }, type := 23 },
                        { dst := Option.some 21, g := Go.Am.QG.no,
                          op := Go.Op.build 111 { toList := [(0, Go.Operand.tmp 18), (1, Go.Operand.tmp 20)] },
                          type := 111 },
                        { dst := Option.some 22, g := Go.Am.QG.no,
                          op :=
                            Go.Op.call
                              { callee := Go.Callee.value (Go.Operand.func 78),
                                args := { toList := [Go.Operand.tmp 16, Go.Operand.tmp 21] },
                                argTypes := { toList := [73, 111] } },
                          type := 3 },
                        { dst := Option.some 6, g := Go.Am.QG.no, op := Go.Op.assign (Go.Operand.tmp 22),
                          type := 3 }]).seq
                  Go.Am.QC.ret)
                ((Go.Am.QC.plain
                      [{ dst := Option.some 24, g := Go.Am.QG.no,
                          op :=
                            Go.Op.binOp Go.BinOp.eql 3 (Go.Operand.tmp 13)
                              (Go.Operand.const (Go.Value.int Go.IntKind.i64 (Int.ofNat 3))) 3,
                          type := 4 },
                        { dst := Option.some 23, g := Go.Am.QG.no, op := Go.Op.assign (Go.Operand.tmp 24),
                          type := 4 }]).seq
                  (Go.Am.QC.cond (Go.Operand.tmp 23)
                    ((Go.Am.QC.plain
                          [{ dst := Option.some 25, g := Go.Am.QG.no, op := Go.Op.move (Go.Operand.tmp 2), type := 3 },
                            { dst := Option.some 6, g := Go.Am.QG.no, op := Go.Op.assign (Go.Operand.tmp 25),
                              type := 3 }]).seq
                      Go.Am.QC.ret)
                    ((Go.Am.QC.plain
                          [{ dst := Option.some 27, g := Go.Am.QG.no,
                              op :=
                                Go.Op.binOp Go.BinOp.eql 3 (Go.Operand.tmp 13)
                                  (Go.Operand.const (Go.Value.int Go.IntKind.i64 (Int.ofNat 4))) 3,
                              type := 4 },
                            { dst := Option.some 26, g := Go.Am.QG.no, op := Go.Op.assign (Go.Operand.tmp 27),
                              type := 4 }]).seq
                      (Go.Am.QC.cond (Go.Operand.tmp 26)
                        (((Go.Am.QC.plain
                                  [{ dst := Option.some 28, g := Go.Am.QG.no,
                                      op := Go.Op.fieldAddr 28 (Go.Operand.tmp 4) 4, type := 0 },
                                    { dst := Option.some 29, g := Go.Am.QG.no, op := Go.Op.load 26 (Go.Operand.tmp 28),
                                      type := 26 },
                                    { dst := Option.some 30, g := Go.Am.QG.no,
                                      op :=
                                        Go.Op.call
                                          { callee := Go.Callee.builtin Go.Builtin.len,
                                            args := { toList := [Go.Operand.tmp 29] }, argTypes := { toList := [26] } },
                                      type := 3 },
                                    { dst := Option.some 31, g := Go.Am.QG.no,
                                      op :=
                                        Go.Op.binOp Go.BinOp.sub 3 (Go.Operand.tmp 30)
                                          (Go.Operand.const (Go.Value.int Go.IntKind.i64 (Int.ofNat 1))) 3,
                                      type := 3 },
                                    { dst := Option.some 7, g := Go.Am.QG.no, op := Go.Op.assign (Go.Operand.tmp 31),
                                      type := 3 }]).seq
                              (Go.Am.QC.block 1
                                (((Go.Am.QC.plain
                                            [{ dst := Option.some 32, g := Go.Am.QG.no,
                                                op := Go.Op.move (Go.Operand.tmp 7), type := 3 },
                                              { dst := Option.some 33, g := Go.Am.QG.no,
                                                op :=
                                                  Go.Op.binOp Go.BinOp.geq 3 (Go.Operand.tmp 32)
                                                    (Go.Operand.const (Go.Value.int Go.IntKind.i64 (Int.ofNat 0))) 3,
                                                type := 4 }]).seq
                                        (Go.Am.QC.cond (Go.Operand.tmp 33) Go.Am.QC.skip (Go.Am.QC.exit 1))).seq
                                    ((Go.Am.QC.block 2
                                          (Go.Am.QC.plain
                                            [{ dst := Option.some 36, g := Go.Am.QG.no,
                                                op := Go.Op.move (Go.Operand.tmp 0), type := 73 },
                                              { dst := Option.some 37, g := Go.Am.QG.no,
                                                op := Go.Op.fieldAddr 28 (Go.Operand.tmp 4) 4, type := 0 },
                                              { dst := Option.some 38, g := Go.Am.QG.no,
                                                op := Go.Op.load 26 (Go.Operand.tmp 37), type := 26 },
                                              { dst := Option.some 39, g := Go.Am.QG.no,
                                                op := Go.Op.move (Go.Operand.tmp 7), type := 3 },
                                              { dst := Option.some 40, g := Go.Am.QG.no,
                                                op := Go.Op.indexAddr 26 (Go.Operand.tmp 38) (Go.Operand.tmp 39),
                                                type := 0 },
                                              { dst := Option.some 41, g := Go.Am.QG.no,
                                                op := Go.Op.load 28 (Go.Operand.tmp 40), type := 28 },
                                              { dst := Option.some 42, g := Go.Am.QG.no,
                                                op := Go.Op.move (Go.Operand.tmp 2), type := 3 },
                                              { dst := Option.some 43, g := Go.Am.QG.no,
                                                op :=
                                                  Go.Op.call
                                                    { callee := Go.Callee.value (Go.Operand.func 63),
                                                      args :=
                                                        {
                                                          toList :=
                                                            [Go.Operand.tmp 36, Go.Operand.tmp 41, Go.Operand.tmp 42] },
                                                      argTypes := { toList := [73, 28, 3] } },
                                                type := 3 },
                                              { dst := Option.some 2, g := Go.Am.QG.no,
                                                op := Go.Op.assign (Go.Operand.tmp 43), type := 3 }])).seq
                                      (Go.Am.QC.plain
                                        [{ dst := Option.some 34, g := Go.Am.QG.no, op := Go.Op.move (Go.Operand.tmp 7),
                                            type := 3 },
                                          { dst := Option.some 35, g := Go.Am.QG.no,
                                            op :=
                                              Go.Op.binOp Go.BinOp.sub 3 (Go.Operand.tmp 34)
                                                (Go.Operand.const (Go.Value.int Go.IntKind.i64 (Int.ofNat 1))) 3,
                                            type := 3 },
                                          { dst := Option.some 7, g := Go.Am.QG.no,
                                            op := Go.Op.assign (Go.Operand.tmp 35), type := 3 }]))).loop)).seq
                          ((Go.Am.QC.plain
                                [{ dst := Option.some 44, g := Go.Am.QG.no, op := Go.Op.move (Go.Operand.tmp 2),
                                    type := 3 },
                                  { dst := Option.some 6, g := Go.Am.QG.no, op := Go.Op.assign (Go.Operand.tmp 44),
                                    type := 3 }]).seq
                            Go.Am.QC.ret))
                        ((Go.Am.QC.plain
                              [{ dst := Option.some 46, g := Go.Am.QG.no,
                                  op :=
                                    Go.Op.binOp Go.BinOp.eql 3 (Go.Operand.tmp 13)
                                      (Go.Operand.const (Go.Value.int Go.IntKind.i64 (Int.ofNat 5))) 3,
                                  type := 4 },
                                { dst := Option.some 45, g := Go.Am.QG.no, op := Go.Op.assign (Go.Operand.tmp 46),
                                  type := 4 }]).seq
                          (Go.Am.QC.cond (Go.Operand.tmp 45)
                            ((Go.Am.QC.plain
                                  [{ dst := Option.some 47, g := Go.Am.QG.no, op := Go.Op.move (Go.Operand.tmp 0),
                                      type := 73 },
                                    { dst := Option.some 48, g := Go.Am.QG.no, op := Go.Op.move (Go.Operand.tmp 0),
                                      type := 73 },
                                    { dst := Option.some 49, g := Go.Am.QG.no,
                                      op := Go.Op.fieldAddr 28 (Go.Operand.tmp 4) 4, type := 0 },
                                    { dst := Option.some 50, g := Go.Am.QG.no, op := Go.Op.load 26 (Go.Operand.tmp 49),
                                      type := 26 },
                                    { dst := Option.some 51, g := Go.Am.QG.no, op := Go.Op.move (Go.Operand.tmp 2),
                                      type := 3 },
                                    { dst := Option.some 52, g := Go.Am.QG.no,
                                      op :=
                                        Go.Op.call
                                          { callee := Go.Callee.value (Go.Operand.func 79),
                                            args :=
                                              { toList := [Go.Operand.tmp 48, Go.Operand.tmp 50, Go.Operand.tmp 51] },
                                            argTypes := { toList := [73, 26, 3] } },
                                      type := 23 },
                                    { dst := Option.some 53, g := Go.Am.QG.no,
                                      op :=
                                        Go.Op.call
                                          { callee := Go.Callee.value (Go.Operand.func 62),
                                            args := { toList := [Go.Operand.tmp 47, Go.Operand.tmp 52] },
                                            argTypes := { toList := [73, 23] } },
                                      type := 3 },
                                    { dst := Option.some 6, g := Go.Am.QG.no, op := Go.Op.assign (Go.Operand.tmp 53),
                                      type := 3 }]).seq
                              Go.Am.QC.ret)
                            ((Go.Am.QC.plain
                                  [{ dst := Option.some 55, g := Go.Am.QG.no,
                                      op :=
                                        Go.Op.binOp Go.BinOp.eql 3 (Go.Operand.tmp 13)
                                          (Go.Operand.const (Go.Value.int Go.IntKind.i64 (Int.ofNat 6))) 3,
                                      type := 4 },
                                    { dst := Option.some 54, g := Go.Am.QG.no, op := Go.Op.assign (Go.Operand.tmp 55),
                                      type := 4 }]).seq
                              (Go.Am.QC.cond (Go.Operand.tmp 54)
                                ((Go.Am.QC.plain
                                      [{ dst := Option.some 57, g := Go.Am.QG.no, op := Go.Op.move (Go.Operand.tmp 0),
                                          type := 73 },
                                        { dst := Option.some 58, g := Go.Am.QG.no,
                                          op := Go.Op.fieldAddr 28 (Go.Operand.tmp 4) 4, type := 0 },
                                        { dst := Option.some 59, g := Go.Am.QG.no,
                                          op := Go.Op.load 26 (Go.Operand.tmp 58), type := 26 },
                                        { dst := Option.some 60, g := Go.Am.QG.no,
                                          op :=
                                            Go.Op.indexAddr 26 (Go.Operand.tmp 59)
                                              (Go.Operand.const (Go.Value.int Go.IntKind.i64 (Int.ofNat 0))),
                                          type := 0 },
                                        { dst := Option.some 61, g := Go.Am.QG.no,
                                          op := Go.Op.load 28 (Go.Operand.tmp 60), type := 28 },
                                        { dst := Option.some 62, g := Go.Am.QG.no, op := Go.Op.move (Go.Operand.tmp 2),
                                          type := 3 },
                                        { dst := Option.some 63, g := Go.Am.QG.no,
                                          op :=
                                            Go.Op.call
                                              { callee := Go.Callee.value (Go.Operand.func 80),
                                                args :=
                                                  {
                                                    toList :=
                                                      [Go.Operand.tmp 57, Go.Operand.tmp 61, Go.Operand.tmp 62] },
                                                argTypes := { toList := [73, 28, 3] } },
                                          type := 113 },
                                        { dst := Option.some 56, g := Go.Am.QG.no, op := Go.Op.move (Go.Operand.tmp 63),
                                          type := 113 },
                                        { dst := Option.some 64, g := Go.Am.QG.no,
                                          op := Go.Op.extract (Go.Operand.tmp 56) 0, type := 3 },
                                        { dst := Option.some 65, g := Go.Am.QG.no,
                                          op := Go.Op.extract (Go.Operand.tmp 56) 1, type := 3 },
                                        { dst := Option.some 8, g := Go.Am.QG.no,
                                          op := Go.Op.assign (Go.Operand.tmp 64), type := 3 },
                                        { dst := Option.some 9, g := Go.Am.QG.no,
                                          op := Go.Op.assign (Go.Operand.tmp 65), type := 3 }]).seq
                                  ((Go.Am.QC.plain
                                        [{ dst := Option.some 66, g := Go.Am.QG.no, op := Go.Op.move (Go.Operand.tmp 8),
                                            type := 3 },
                                          { dst := Option.some 6, g := Go.Am.QG.no,
                                            op := Go.Op.assign (Go.Operand.tmp 66), type := 3 }]).seq
                                    Go.Am.QC.ret))
                                ((Go.Am.QC.plain
                                      [{ dst := Option.some 68, g := Go.Am.QG.no,
                                          op :=
                                            Go.Op.binOp Go.BinOp.eql 3 (Go.Operand.tmp 13)
                                              (Go.Operand.const (Go.Value.int Go.IntKind.i64 (Int.ofNat 7))) 3,
                                          type := 4 },
                                        { dst := Option.some 67, g := Go.Am.QG.no,
                                          op := Go.Op.assign (Go.Operand.tmp 68), type := 4 }]).seq
                                  (Go.Am.QC.cond (Go.Operand.tmp 67)
                                    ((Go.Am.QC.plain
                                          [{ dst := Option.some 70, g := Go.Am.QG.no,
                                              op := Go.Op.move (Go.Operand.tmp 0), type := 73 },
                                            { dst := Option.some 71, g := Go.Am.QG.no,
                                              op := Go.Op.fieldAddr 28 (Go.Operand.tmp 4) 4, type := 0 },
                                            { dst := Option.some 72, g := Go.Am.QG.no,
                                              op := Go.Op.load 26 (Go.Operand.tmp 71), type := 26 },
                                            { dst := Option.some 73, g := Go.Am.QG.no,
                                              op :=
                                                Go.Op.indexAddr 26 (Go.Operand.tmp 72)
                                                  (Go.Operand.const (Go.Value.int Go.IntKind.i64 (Int.ofNat 0))),
                                              type := 0 },
                                            { dst := Option.some 74, g := Go.Am.QG.no,
                                              op := Go.Op.load 28 (Go.Operand.tmp 73), type := 28 },
                                            { dst := Option.some 75, g := Go.Am.QG.no,
                                              op := Go.Op.move (Go.Operand.tmp 2), type := 3 },
                                            { dst := Option.some 76, g := Go.Am.QG.no,
                                              op :=
                                                Go.Op.call
                                                  { callee := Go.Callee.value (Go.Operand.func 80),
                                                    args :=
                                                      {
                                                        toList :=
                                                          [Go.Operand.tmp 70, Go.Operand.tmp 74, Go.Operand.tmp 75] },
                                                    argTypes := { toList := [73, 28, 3] } },
                                              type := 113 },
                                            { dst := Option.some 69, g := Go.Am.QG.no,
                                              op := Go.Op.move (Go.Operand.tmp 76), type := 113 },
                                            { dst := Option.some 77, g := Go.Am.QG.no,
                                              op := Go.Op.extract (Go.Operand.tmp 69) 0, type := 3 },
                                            { dst := Option.some 78, g := Go.Am.QG.no,
                                              op := Go.Op.extract (Go.Operand.tmp 69) 1, type := 3 },
                                            { dst := Option.some 10, g := Go.Am.QG.no,
                                              op := Go.Op.assign (Go.Operand.tmp 77), type := 3 },
                                            { dst := Option.some 11, g := Go.Am.QG.no,
                                              op := Go.Op.assign (Go.Operand.tmp 78), type := 3 }]).seq
                                      ((Go.Am.QC.plain
                                            [{ dst := Option.some 79, g := Go.Am.QG.no,
                                                op := Go.Op.move (Go.Operand.tmp 11), type := 3 },
                                              { dst := Option.some 6, g := Go.Am.QG.no,
                                                op := Go.Op.assign (Go.Operand.tmp 79), type := 3 }]).seq
                                        Go.Am.QC.ret))
                                    ((Go.Am.QC.plain
                                          [{ dst := Option.some 81, g := Go.Am.QG.no,
                                              op :=
                                                Go.Op.binOp Go.BinOp.eql 3 (Go.Operand.tmp 13)
                                                  (Go.Operand.const (Go.Value.int Go.IntKind.i64 (Int.ofNat 8))) 3,
                                              type := 4 },
                                            { dst := Option.some 80, g := Go.Am.QG.no,
                                              op := Go.Op.assign (Go.Operand.tmp 81), type := 4 }]).seq
                                      (Go.Am.QC.cond (Go.Operand.tmp 80)
                                        ((Go.Am.QC.plain
                                              [{ dst := Option.some 82, g := Go.Am.QG.no,
                                                  op := Go.Op.move (Go.Operand.tmp 0), type := 73 },
                                                { dst := Option.some 83, g := Go.Am.QG.no,
                                                  op := Go.Op.move (Go.Operand.tmp 0), type := 73 },
                                                { dst := Option.some 84, g := Go.Am.QG.no,
                                                  op := Go.Op.fieldAddr 28 (Go.Operand.tmp 4) 4, type := 0 },
                                                { dst := Option.some 85, g := Go.Am.QG.no,
                                                  op := Go.Op.load 26 (Go.Operand.tmp 84), type := 26 },
                                                { dst := Option.some 86, g := Go.Am.QG.no,
                                                  op :=
                                                    Go.Op.indexAddr 26 (Go.Operand.tmp 85)
                                                      (Go.Operand.const (Go.Value.int Go.IntKind.i64 (Int.ofNat 0))),
                                                  type := 0 },
                                                { dst := Option.some 87, g := Go.Am.QG.no,
                                                  op := Go.Op.load 28 (Go.Operand.tmp 86), type := 28 },
                                                { dst := Option.some 88, g := Go.Am.QG.no,
                                                  op := Go.Op.move (Go.Operand.tmp 2), type := 3 },
                                                { dst := Option.some 89, g := Go.Am.QG.no,
                                                  op :=
                                                    Go.Op.call
                                                      { callee := Go.Callee.value (Go.Operand.func 63),
                                                        args :=
                                                          {
                                                            toList :=
                                                              [Go.Operand.tmp 83, Go.Operand.tmp 87,
                                                                Go.Operand.tmp 88] },
                                                        argTypes := { toList := [73, 28, 3] } },
                                                  type := 3 },
                                                { dst := Option.some 90, g := Go.Am.QG.no,
                                                  op := Go.Op.move (Go.Operand.tmp 2), type := 3 },
                                                { dst := Option.some 91, g := Go.Am.QG.no,
                                                  op :=
                                                    Go.Op.buildSlice 23 2
                                                      { toList := [(0, Go.Operand.tmp 89), (1, Go.Operand.tmp 90)] },
                                                  type := 23 },
                                                { dst := Option.some 92, g := Go.Am.QG.no,
                                                  op :=
                                                    Go.Op.call
                                                      { callee := Go.Callee.value (Go.Operand.func 62),
                                                        args := { toList := [Go.Operand.tmp 82, Go.Operand.tmp 91] },
                                                        argTypes := { toList := [73, 23] } },
                                                  type := 3 },
                                                { dst := Option.some 6, g := Go.Am.QG.no,
                                                  op := Go.Op.assign (Go.Operand.tmp 92), type := 3 }]).seq
                                          Go.Am.QC.ret)
                                        ((Go.Am.QC.plain
                                              [{ dst := Option.some 94, g := Go.Am.QG.no,
                                                  op :=
                                                    Go.Op.binOp Go.BinOp.eql 3 (Go.Operand.tmp 13)
                                                      (Go.Operand.const (Go.Value.int Go.IntKind.i64 (Int.ofNat 9))) 3,
                                                  type := 4 },
                                                { dst := Option.some 93, g := Go.Am.QG.no,
                                                  op := Go.Op.assign (Go.Operand.tmp 94), type := 4 }]).seq
                                          (Go.Am.QC.cond (Go.Operand.tmp 93)
                                            ((Go.Am.QC.plain
                                                  [{ dst := Option.some 95, g := Go.Am.QG.no,
                                                      op := Go.Op.move (Go.Operand.tmp 0), type := 73 },
                                                    { dst := Option.some 96, g := Go.Am.QG.no,
                                                      op := Go.Op.load 28 (Go.Operand.tmp 4), type := 28 },
                                                    { dst := Option.some 97, g := Go.Am.QG.no,
                                                      op := Go.Op.move (Go.Operand.tmp 2), type := 3 },
                                                    { dst := Option.some 98, g := Go.Am.QG.no,
                                                      op :=
                                                        Go.Op.call
                                                          { callee := Go.Callee.value (Go.Operand.func 81),
                                                            args :=
                                                              {
                                                                toList :=
                                                                  [Go.Operand.tmp 95, Go.Operand.tmp 96,
                                                                    Go.Operand.tmp 97] },
                                                            argTypes := { toList := [73, 28, 3] } },
                                                      type := 3 },
                                                    { dst := Option.some 6, g := Go.Am.QG.no,
                                                      op := Go.Op.assign (Go.Operand.tmp 98), type := 3 }]).seq
                                              Go.Am.QC.ret)
                                            Go.Am.QC.skip)))))))))))))))))).seq
      ((Go.Am.QC.plain
            [{ dst := Option.some 99, g := Go.Am.QG.no, op := Go.Op.move (Go.Operand.tmp 0), type := 73 },
              { dst := Option.some 100, g := Go.Am.QG.no,
                op :=
                  Go.Op.call
                    { callee := Go.Callee.value (Go.Operand.func 62),
                      args := { toList := [Go.Operand.tmp 99, Go.Operand.const (Go.Value.slice Option.none 0 0)] },
                      argTypes := { toList := [73, 23] } },
                type := 3 },
              { dst := Option.some 6, g := Go.Am.QG.no, op := Go.Op.assign (Go.Operand.tmp 100), type := 3 }]).seq
        Go.Am.QC.ret)))
theorem q63_ok : bodyComp Tryd.prog 63 = some q63 := by kernel_rfl
noncomputable def q64 : QC :=
  ((Go.Am.QC.plain
        [{ dst := Option.some 6, g := Go.Am.QG.no, op := Go.Op.move (Go.Operand.tmp 1), type := 23 },
          { dst := Option.some 7, g := Go.Am.QG.no,
            op :=
              Go.Op.call
                { callee := Go.Callee.builtin Go.Builtin.len, args := { toList := [Go.Operand.tmp 6] },
                  argTypes := { toList := [23] } },
            type := 3 },
          { dst := Option.some 8, g := Go.Am.QG.no,
            op := Go.Op.move (Go.Operand.const (Go.Value.int Go.IntKind.i64 (Int.ofNat 0))), type := 3 }]).seq
    (Go.Am.QC.block 0
      ((Go.Am.QC.plain
              [{ dst := Option.some 9, g := Go.Am.QG.no,
                  op := Go.Op.binOp Go.BinOp.lss 3 (Go.Operand.tmp 8) (Go.Operand.tmp 7) 3, type := 0 }]).seq
          ((Go.Am.QC.cond (Go.Operand.tmp 9) Go.Am.QC.skip (Go.Am.QC.exit 0)).seq
            ((Go.Am.QC.block 1
                  ((Go.Am.QC.plain
                        [{ dst := Option.some 10, g := Go.Am.QG.no,
                            op := Go.Op.indexAddr 23 (Go.Operand.tmp 6) (Go.Operand.tmp 8), type := 0 },
                          { dst := Option.some 11, g := Go.Am.QG.no, op := Go.Op.load 3 (Go.Operand.tmp 10),
                            type := 3 },
                          { dst := Option.some 5, g := Go.Am.QG.no, op := Go.Op.assign (Go.Operand.tmp 11),
                            type := 3 }]).seq
                    ((Go.Am.QC.plain
                          [{ dst := Option.some 12, g := Go.Am.QG.no, op := Go.Op.move (Go.Operand.tmp 0), type := 94 },
                            { dst := Option.some 13, g := Go.Am.QG.no, op := Go.Op.nilCheck (Go.Operand.tmp 12),
                              type := 0 },
                            { dst := Option.some 14, g := Go.Am.QG.no, op := Go.Op.fieldAddr 96 (Go.Operand.tmp 13) 4,
                              type := 0 },
                            { dst := Option.some 15, g := Go.Am.QG.no, op := Go.Op.load 23 (Go.Operand.tmp 14),
                              type := 23 },
                            { dst := Option.some 16, g := Go.Am.QG.no, op := Go.Op.move (Go.Operand.tmp 5), type := 3 },
                            { dst := Option.some 17, g := Go.Am.QG.no,
                              op := Go.Op.indexAddr 23 (Go.Operand.tmp 15) (Go.Operand.tmp 16), type := 0 },
                            { dst := Option.some 18, g := Go.Am.QG.no, op := Go.Op.load 3 (Go.Operand.tmp 17),
                              type := 3 },
                            { dst := Option.some 19, g := Go.Am.QG.no, op := Go.Op.move (Go.Operand.tmp 0),
                              type := 94 },
                            { dst := Option.some 20, g := Go.Am.QG.no, op := Go.Op.nilCheck (Go.Operand.tmp 19),
                              type := 0 },
                            { dst := Option.some 21, g := Go.Am.QG.no, op := Go.Op.fieldAddr 96 (Go.Operand.tmp 20) 3,
                              type := 0 },
                            { dst := Option.some 22, g := Go.Am.QG.no, op := Go.Op.load 3 (Go.Operand.tmp 21),
                              type := 3 },
                            { dst := Option.some 23, g := Go.Am.QG.no,
                              op := Go.Op.binOp Go.BinOp.neq 3 (Go.Operand.tmp 18) (Go.Operand.tmp 22) 3,
                              type := 4 }]).seq
                      (Go.Am.QC.cond (Go.Operand.tmp 23)
                        ((Go.Am.QC.plain
                              [{ dst := Option.some 24, g := Go.Am.QG.no, op := Go.Op.move (Go.Operand.tmp 0),
                                  type := 94 },
                                { dst := Option.some 25, g := Go.Am.QG.no, op := Go.Op.nilCheck (Go.Operand.tmp 24),
                                  type := 0 },
                                { dst := Option.some 26, g := Go.Am.QG.no,
                                  op := Go.Op.fieldAddr 96 (Go.Operand.tmp 25) 4, type := 0 },
                                { dst := Option.some 27, g := Go.Am.QG.no, op := Go.Op.load 23 (Go.Operand.tmp 26),
                                  type := 23 },
                                { dst := Option.some 28, g := Go.Am.QG.no, op := Go.Op.move (Go.Operand.tmp 5),
                                  type := 3 },
                                { dst := Option.some 29, g := Go.Am.QG.no, op := Go.Op.move (Go.Operand.tmp 0),
                                  type := 94 },
                                { dst := Option.some 30, g := Go.Am.QG.no, op := Go.Op.nilCheck (Go.Operand.tmp 29),
                                  type := 0 },
                                { dst := Option.some 31, g := Go.Am.QG.no,
                                  op := Go.Op.fieldAddr 96 (Go.Operand.tmp 30) 3, type := 0 },
                                { dst := Option.some 32, g := Go.Am.QG.no, op := Go.Op.load 3 (Go.Operand.tmp 31),
                                  type := 3 },
                                { dst := Option.some 33, g := Go.Am.QG.no,
                                  op := Go.Op.indexAddr 23 (Go.Operand.tmp 27) (Go.Operand.tmp 28), type := 0 },
                                { dst := Option.none, g := Go.Am.QG.no,
                                  op := Go.Op.store 3 (Go.Operand.tmp 33) (Go.Operand.tmp 32), type := 0 }]).seq
                          (Go.Am.QC.plain
                            [{ dst := Option.some 34, g := Go.Am.QG.no, op := Go.Op.move (Go.Operand.tmp 0),
                                type := 94 },
                              { dst := Option.some 35, g := Go.Am.QG.no, op := Go.Op.move (Go.Operand.tmp 0),
                                type := 94 },
                              { dst := Option.some 36, g := Go.Am.QG.no, op := Go.Op.nilCheck (Go.Operand.tmp 35),
                                type := 0 },
                              { dst := Option.some 37, g := Go.Am.QG.no, op := Go.Op.fieldAddr 96 (Go.Operand.tmp 36) 1,
                                type := 0 },
                              { dst := Option.some 38, g := Go.Am.QG.no, op := Go.Op.load 23 (Go.Operand.tmp 37),
                                type := 23 },
                              { dst := Option.some 39, g := Go.Am.QG.no, op := Go.Op.move (Go.Operand.tmp 5),
                                type := 3 },
                              { dst := Option.some 40, g := Go.Am.QG.no,
                                op := Go.Op.buildSlice 23 1 { toList := [(0, Go.Operand.tmp 39)] }, type := 23 },
                              { dst := Option.some 41, g := Go.Am.QG.no,
                                op :=
                                  Go.Op.call
                                    { callee := Go.Callee.builtin Go.Builtin.append,
                                      args := { toList := [Go.Operand.tmp 38, Go.Operand.tmp 40] },
                                      argTypes := { toList := [23, 23] } },
                                type := 23 },
                              { dst := Option.some 42, g := Go.Am.QG.no, op := Go.Op.nilCheck (Go.Operand.tmp 34),
                                type := 0 },
                              { dst := Option.some 43, g := Go.Am.QG.no, op := Go.Op.fieldAddr 96 (Go.Operand.tmp 42) 1,
                                type := 0 },
                              { dst := Option.none, g := Go.Am.QG.no,
                                op := Go.Op.store 23 (Go.Operand.tmp 43) (Go.Operand.tmp 41), type := 0 }]))
                        Go.Am.QC.skip)))).seq
              (Go.Am.QC.plain
                [{ dst := Option.some 44, g := Go.Am.QG.no,
                    op :=
                      Go.Op.binOp Go.BinOp.add 3 (Go.Operand.tmp 8)
                        (Go.Operand.const (Go.Value.int Go.IntKind.i64 (Int.ofNat 1))) 3,
                    type := 3 },
                  { dst := Option.some 8, g := Go.Am.QG.no, op := Go.Op.move (Go.Operand.tmp 44),
                    type := 3 }])))).loop))
theorem q64_ok : bodyComp Tryd.prog 64 = some q64 := by kernel_rfl
noncomputable def q65 : QC :=
  ((Go.Am.QC.plain
        [{ dst := Option.some 2, g := Go.Am.QG.no,
            op := Go.Op.assign (Go.Operand.const (Go.Value.int Go.IntKind.i64 (Int.ofNat 0))), type := 3 }]).seq
    (Go.Am.QC.block 0
      (((Go.Am.QC.plain
                  [{ dst := Option.some 4, g := Go.Am.QG.no, op := Go.Op.move (Go.Operand.tmp 2), type := 3 },
                    { dst := Option.some 5, g := Go.Am.QG.no, op := Go.Op.move (Go.Operand.tmp 0), type := 94 },
                    { dst := Option.some 6, g := Go.Am.QG.no, op := Go.Op.nilCheck (Go.Operand.tmp 5), type := 0 },
                    { dst := Option.some 7, g := Go.Am.QG.no, op := Go.Op.fieldAddr 96 (Go.Operand.tmp 6) 1,
                      type := 0 },
                    { dst := Option.some 8, g := Go.Am.QG.no, op := Go.Op.load 23 (Go.Operand.tmp 7), type := 23 },
                    { dst := Option.some 9, g := Go.Am.QG.no,
                      op :=
                        Go.Op.call
                          { callee := Go.Callee.builtin Go.Builtin.len, args := { toList := [Go.Operand.tmp 8] },
                            argTypes := { toList := [23] } },
                      type := 3 },
                    { dst := Option.some 10, g := Go.Am.QG.no,
                      op := Go.Op.binOp Go.BinOp.lss 3 (Go.Operand.tmp 4) (Go.Operand.tmp 9) 3, type := 4 }]).seq
              (Go.Am.QC.cond (Go.Operand.tmp 10) Go.Am.QC.skip (Go.Am.QC.exit 0))).seq
          ((Go.Am.QC.block 1
                ((Go.Am.QC.plain
                      [{ dst := Option.some 13, g := Go.Am.QG.no, op := Go.Op.move (Go.Operand.tmp 0), type := 94 },
                        { dst := Option.some 14, g := Go.Am.QG.no, op := Go.Op.nilCheck (Go.Operand.tmp 13),
                          type := 0 },
                        { dst := Option.some 15, g := Go.Am.QG.no, op := Go.Op.fieldAddr 96 (Go.Operand.tmp 14) 0,
                          type := 0 },
                        { dst := Option.some 16, g := Go.Am.QG.no, op := Go.Op.load 90 (Go.Operand.tmp 15),
                          type := 90 },
                        { dst := Option.some 17, g := Go.Am.QG.no, op := Go.Op.move (Go.Operand.tmp 0), type := 94 },
                        { dst := Option.some 18, g := Go.Am.QG.no, op := Go.Op.nilCheck (Go.Operand.tmp 17),
                          type := 0 },
                        { dst := Option.some 19, g := Go.Am.QG.no, op := Go.Op.fieldAddr 96 (Go.Operand.tmp 18) 1,
                          type := 0 },
                        { dst := Option.some 20, g := Go.Am.QG.no, op := Go.Op.load 23 (Go.Operand.tmp 19),
                          type := 23 },
                        { dst := Option.some 21, g := Go.Am.QG.no, op := Go.Op.move (Go.Operand.tmp 2), type := 3 },
                        { dst := Option.some 22, g := Go.Am.QG.no,
                          op := Go.Op.indexAddr 23 (Go.Operand.tmp 20) (Go.Operand.tmp 21), type := 0 },
                        { dst := Option.some 23, g := Go.Am.QG.no, op := Go.Op.load 3 (Go.Operand.tmp 22), type := 3 },
                        { dst := Option.some 24, g := Go.Am.QG.no,
                          op := Go.Op.indexAddr 90 (Go.Operand.tmp 16) (Go.Operand.tmp 23), type := 0 },
                        { dst := Option.some 25, g := Go.Am.QG.no, op := Go.Op.load 111 (Go.Operand.tmp 24),
                          type := 111 },
                        { dst := Option.some 3, g := Go.Am.QG.no, op := Go.Op.alloc 111, type := 0 },
                        { dst := Option.none, g := Go.Am.QG.no,
                          op := Go.Op.store 111 (Go.Operand.tmp 3) (Go.Operand.tmp 25), type := 0 }]).seq
                  ((Go.Am.QC.plain
                        [{ dst := Option.some 26, g := Go.Am.QG.no, op := Go.Op.fieldAddr 111 (Go.Operand.tmp 3) 0,
                            type := 0 },
                          { dst := Option.some 27, g := Go.Am.QG.no, op := Go.Op.load 3 (Go.Operand.tmp 26),
                            type := 3 },
                          { dst := Option.some 28, g := Go.Am.QG.no,
                            op :=
                              Go.Op.binOp Go.BinOp.eql 3 (Go.Operand.tmp 27)
                                (Go.Operand.const (Go.Value.int Go.IntKind.i64 (Int.ofNat 0))) 3,
                            type := 4 }]).seq
                    (Go.Am.QC.cond (Go.Operand.tmp 28)
                      (Go.Am.QC.plain
                        [{ dst := Option.some 29, g := Go.Am.QG.no, op := Go.Op.move (Go.Operand.tmp 0), type := 94 },
                          { dst := Option.some 30, g := Go.Am.QG.no, op := Go.Op.fieldAddr 111 (Go.Operand.tmp 3) 1,
                            type := 0 },
                          { dst := Option.some 31, g := Go.Am.QG.no, op := Go.Op.load 23 (Go.Operand.tmp 30),
                            type := 23 },
                          { dst := Option.some 32, g := Go.Am.QG.no,
                            op :=
                              Go.Op.call
                                { callee := Go.Callee.value (Go.Operand.func 64),
                                  args := { toList := [Go.Operand.tmp 29, Go.Operand.tmp 31] },
                                  argTypes := { toList := [94, 23] } },
                            type := 0 }])
                      Go.Am.QC.skip)))).seq
            (Go.Am.QC.plain
              [{ dst := Option.some 11, g := Go.Am.QG.no, op := Go.Op.move (Go.Operand.tmp 2), type := 3 },
                { dst := Option.some 12, g := Go.Am.QG.no,
                  op :=
                    Go.Op.binOp Go.BinOp.add 3 (Go.Operand.tmp 11)
                      (Go.Operand.const (Go.Value.int Go.IntKind.i64 (Int.ofNat 1))) 3,
                  type := 3 },
                { dst := Option.some 2, g := Go.Am.QG.no, op := Go.Op.assign (Go.Operand.tmp 12), type := 3 }]))).loop))
theorem q65_ok : bodyComp Tryd.prog 65 = some q65 := by kernel_rfl
noncomputable def q66 : QC :=
  ((Go.Am.QC.plain
        [{ dst := Option.some 8, g := Go.Am.QG.no, op := Go.Op.move (Go.Operand.tmp 0), type := 94 },
          { dst := Option.some 9, g := Go.Am.QG.no, op := Go.Op.nilCheck (Go.Operand.tmp 8), type := 0 },
          { dst := Option.some 10, g := Go.Am.QG.no, op := Go.Op.fieldAddr 96 (Go.Operand.tmp 9) 1, type := 0 },
          { dst := Option.some 11, g := Go.Am.QG.no, op := Go.Op.load 23 (Go.Operand.tmp 10), type := 23 },
          { dst := Option.some 4, g := Go.Am.QG.no, op := Go.Op.assign (Go.Operand.tmp 11), type := 23 }]).seq
    ((Go.Am.QC.plain
          [{ dst := Option.some 12, g := Go.Am.QG.no, op := Go.Op.move (Go.Operand.tmp 0), type := 94 },
            { dst := Option.some 13, g := Go.Am.QG.no, op := Go.Op.move (Go.Operand.tmp 0), type := 94 },
            { dst := Option.some 14, g := Go.Am.QG.no, op := Go.Op.move (Go.Operand.tmp 0), type := 94 },
            { dst := Option.some 15, g := Go.Am.QG.no, op := Go.Op.nilCheck (Go.Operand.tmp 14), type := 0 },
            { dst := Option.some 16, g := Go.Am.QG.no, op := Go.Op.fieldAddr 96 (Go.Operand.tmp 15) 2, type := 0 },
            { dst := Option.some 17, g := Go.Am.QG.no, op := Go.Op.load 23 (Go.Operand.tmp 16), type := 23 },
            { dst := Option.some 18, g := Go.Am.QG.no,
              op :=
                Go.Op.slice 23 (Go.Operand.tmp 17) Option.none
                  (Option.some (Go.Operand.const (Go.Value.int Go.IntKind.i64 (Int.ofNat 0)))) Option.none,
              type := 23 },
            { dst := Option.some 19, g := Go.Am.QG.no, op := Go.Op.move (Go.Operand.tmp 4), type := 23 },
            { dst := Option.some 20, g := Go.Am.QG.no, op := Go.Op.nilCheck (Go.Operand.tmp 12), type := 0 },
            { dst := Option.some 21, g := Go.Am.QG.no, op := Go.Op.fieldAddr 96 (Go.Operand.tmp 20) 1, type := 0 },
            { dst := Option.none, g := Go.Am.QG.no, op := Go.Op.store 23 (Go.Operand.tmp 21) (Go.Operand.tmp 18),
              type := 0 },
            { dst := Option.some 22, g := Go.Am.QG.no, op := Go.Op.nilCheck (Go.Operand.tmp 13), type := 0 },
            { dst := Option.some 23, g := Go.Am.QG.no, op := Go.Op.fieldAddr 96 (Go.Operand.tmp 22) 2, type := 0 },
            { dst := Option.none, g := Go.Am.QG.no, op := Go.Op.store 23 (Go.Operand.tmp 23) (Go.Operand.tmp 19),
              type := 0 }]).seq
      ((Go.Am.QC.plain
            [{ dst := Option.some 24, g := Go.Am.QG.no, op := Go.Op.move (Go.Operand.tmp 0), type := 94 },
              { dst := Option.some 25, g := Go.Am.QG.no, op := Go.Op.nilCheck (Go.Operand.tmp 24), type := 0 },
              { dst := Option.some 26, g := Go.Am.QG.no, op := Go.Op.fieldAddr 96 (Go.Operand.tmp 25) 3, type := 0 },
              { dst := Option.some 27, g := Go.Am.QG.no, op := Go.Op.load 3 (Go.Operand.tmp 26), type := 3 },
              { dst := Option.some 28, g := Go.Am.QG.no,
                op :=
                  Go.Op.binOp Go.BinOp.add 3 (Go.Operand.tmp 27)
                    (Go.Operand.const (Go.Value.int Go.IntKind.i64 (Int.ofNat 1))) 3,
                type := 3 },
              { dst := Option.some 29, g := Go.Am.QG.no, op := Go.Op.nilCheck (Go.Operand.tmp 24), type := 0 },
              { dst := Option.some 30, g := Go.Am.QG.no, op := Go.Op.fieldAddr 96 (Go.Operand.tmp 29) 3, type := 0 },
              { dst := Option.none, g := Go.Am.QG.no, op := Go.Op.store 3 (Go.Operand.tmp 30) (Go.Operand.tmp 28),
                type := 0 }]).seq
        (((Go.Am.QC.plain
                  [{ dst := Option.some 31, g := Go.Am.QG.no, op := Go.Op.move (Go.Operand.tmp 4), type := 23 },
                    { dst := Option.some 32, g := Go.Am.QG.no,
                      op :=
                        Go.Op.call
                          { callee := Go.Callee.builtin Go.Builtin.len, args := { toList := [Go.Operand.tmp 31] },
                            argTypes := { toList := [23] } },
                      type := 3 },
                    { dst := Option.some 33, g := Go.Am.QG.no,
                      op := Go.Op.move (Go.Operand.const (Go.Value.int Go.IntKind.i64 (Int.ofNat 0))), type := 3 }]).seq
              (Go.Am.QC.block 0
                ((Go.Am.QC.plain
                        [{ dst := Option.some 34, g := Go.Am.QG.no,
                            op := Go.Op.binOp Go.BinOp.lss 3 (Go.Operand.tmp 33) (Go.Operand.tmp 32) 3,
                            type := 0 }]).seq
                    ((Go.Am.QC.cond (Go.Operand.tmp 34) Go.Am.QC.skip (Go.Am.QC.exit 0)).seq
                      ((Go.Am.QC.block 1
                            ((Go.Am.QC.plain
                                  [{ dst := Option.some 35, g := Go.Am.QG.no,
                                      op := Go.Op.indexAddr 23 (Go.Operand.tmp 31) (Go.Operand.tmp 33), type := 0 },
                                    { dst := Option.some 36, g := Go.Am.QG.no, op := Go.Op.load 3 (Go.Operand.tmp 35),
                                      type := 3 },
                                    { dst := Option.some 6, g := Go.Am.QG.no, op := Go.Op.assign (Go.Operand.tmp 36),
                                      type := 3 }]).seq
                              ((Go.Am.QC.plain
                                    [{ dst := Option.some 37, g := Go.Am.QG.no, op := Go.Op.move (Go.Operand.tmp 0),
                                        type := 94 },
                                      { dst := Option.some 38, g := Go.Am.QG.no,
                                        op := Go.Op.nilCheck (Go.Operand.tmp 37), type := 0 },
                                      { dst := Option.some 39, g := Go.Am.QG.no,
                                        op := Go.Op.fieldAddr 96 (Go.Operand.tmp 38) 0, type := 0 },
                                      { dst := Option.some 40, g := Go.Am.QG.no,
                                        op := Go.Op.load 90 (Go.Operand.tmp 39), type := 90 },
                                      { dst := Option.some 41, g := Go.Am.QG.no, op := Go.Op.move (Go.Operand.tmp 6),
                                        type := 3 },
                                      { dst := Option.some 42, g := Go.Am.QG.no,
                                        op := Go.Op.indexAddr 90 (Go.Operand.tmp 40) (Go.Operand.tmp 41), type := 0 },
                                      { dst := Option.some 43, g := Go.Am.QG.no,
                                        op := Go.Op.load 111 (Go.Operand.tmp 42), type := 111 },
                                      { dst := Option.some 7, g := Go.Am.QG.no, op := Go.Op.alloc 111, type := 0 },
                                      { dst := Option.none, g := Go.Am.QG.no,
                                        op := Go.Op.store 111 (Go.Operand.tmp 7) (Go.Operand.tmp 43), type := 0 }]).seq
                                ((Go.Am.QC.plain
                                      [{ dst := Option.some 44, g := Go.Am.QG.no,
                                          op := Go.Op.fieldAddr 111 (Go.Operand.tmp 7) 0, type := 0 },
                                        { dst := Option.some 45, g := Go.Am.QG.no,
                                          op := Go.Op.load 3 (Go.Operand.tmp 44), type := 3 },
                                        { dst := Option.some 46, g := Go.Am.QG.no, op := Go.Op.move (Go.Operand.tmp 1),
                                          type := 3 },
                                        { dst := Option.some 47, g := Go.Am.QG.no,
                                          op := Go.Op.binOp Go.BinOp.shr 3 (Go.Operand.tmp 45) (Go.Operand.tmp 46) 3,
                                          type := 3 },
                                        { dst := Option.some 48, g := Go.Am.QG.no,
                                          op :=
                                            Go.Op.binOp Go.BinOp.and 3 (Go.Operand.tmp 47)
                                              (Go.Operand.const (Go.Value.int Go.IntKind.i64 (Int.ofNat 1))) 3,
                                          type := 3 },
                                        { dst := Option.some 49, g := Go.Am.QG.no,
                                          op :=
                                            Go.Op.binOp Go.BinOp.eql 3 (Go.Operand.tmp 48)
                                              (Go.Operand.const (Go.Value.int Go.IntKind.i64 (Int.ofNat 1))) 3,
                                          type := 4 }]).seq
                                  (Go.Am.QC.cond (Go.Operand.tmp 49)
                                    (Go.Am.QC.plain
                                      [{ dst := Option.some 50, g := Go.Am.QG.no, op := Go.Op.move (Go.Operand.tmp 0),
                                          type := 94 },
                                        { dst := Option.some 51, g := Go.Am.QG.no,
                                          op := Go.Op.fieldAddr 111 (Go.Operand.tmp 7) 1, type := 0 },
                                        { dst := Option.some 52, g := Go.Am.QG.no,
                                          op := Go.Op.load 23 (Go.Operand.tmp 51), type := 23 },
                                        { dst := Option.some 53, g := Go.Am.QG.no,
                                          op :=
                                            Go.Op.call
                                              { callee := Go.Callee.value (Go.Operand.func 64),
                                                args := { toList := [Go.Operand.tmp 50, Go.Operand.tmp 52] },
                                                argTypes := { toList := [94, 23] } },
                                          type := 0 }])
                                    Go.Am.QC.skip))))).seq
                        (Go.Am.QC.plain
                          [{ dst := Option.some 54, g := Go.Am.QG.no,
                              op :=
                                Go.Op.binOp Go.BinOp.add 3 (Go.Operand.tmp 33)
                                  (Go.Operand.const (Go.Value.int Go.IntKind.i64 (Int.ofNat 1))) 3,
                              type := 3 },
                            { dst := Option.some 33, g := Go.Am.QG.no, op := Go.Op.move (Go.Operand.tmp 54),
                              type := 3 }])))).loop)).seq
          (Go.Am.QC.plain
            [{ dst := Option.some 55, g := Go.Am.QG.no, op := Go.Op.move (Go.Operand.tmp 0), type := 94 },
              { dst := Option.some 56, g := Go.Am.QG.no,
                op :=
                  Go.Op.call
                    { callee := Go.Callee.value (Go.Operand.func 65), args := { toList := [Go.Operand.tmp 55] },
                      argTypes := { toList := [94] } },
                type := 0 }])))))
theorem q66_ok : bodyComp Tryd.prog 66 = some q66 := by kernel_rfl
noncomputable def q67 : QC :=
  ((Go.Am.QC.plain
        [{ dst := Option.some 4, g := Go.Am.QG.no,
            op := Go.Op.assign (Go.Operand.const (Go.Value.int Go.IntKind.i64 (Int.ofNat 0))), type := 3 }]).seq
    (((Go.Am.QC.plain
              [{ dst := Option.some 6, g := Go.Am.QG.no, op := Go.Op.move (Go.Operand.tmp 0), type := 26 },
                { dst := Option.some 7, g := Go.Am.QG.no,
                  op :=
                    Go.Op.call
                      { callee := Go.Callee.builtin Go.Builtin.len, args := { toList := [Go.Operand.tmp 6] },
                        argTypes := { toList := [26] } },
                  type := 3 },
                { dst := Option.some 8, g := Go.Am.QG.no,
                  op := Go.Op.move (Go.Operand.const (Go.Value.int Go.IntKind.i64 (Int.ofNat 0))), type := 3 }]).seq
          (Go.Am.QC.block 0
            ((Go.Am.QC.plain
                    [{ dst := Option.some 9, g := Go.Am.QG.no,
                        op := Go.Op.binOp Go.BinOp.lss 3 (Go.Operand.tmp 8) (Go.Operand.tmp 7) 3, type := 0 }]).seq
                ((Go.Am.QC.cond (Go.Operand.tmp 9) Go.Am.QC.skip (Go.Am.QC.exit 0)).seq
                  ((Go.Am.QC.block 1
                        ((Go.Am.QC.plain
                              [{ dst := Option.some 10, g := Go.Am.QG.no, op := Go.Op.move (Go.Operand.tmp 8),
                                  type := 3 },
                                { dst := Option.some 5, g := Go.Am.QG.no, op := Go.Op.assign (Go.Operand.tmp 10),
                                  type := 3 }]).seq
                          ((Go.Am.QC.plain
                                [{ dst := Option.some 11, g := Go.Am.QG.no, op := Go.Op.move (Go.Operand.tmp 1),
                                    type := 32 },
                                  { dst := Option.some 12, g := Go.Am.QG.no, op := Go.Op.move (Go.Operand.tmp 0),
                                    type := 26 },
                                  { dst := Option.some 13, g := Go.Am.QG.no, op := Go.Op.move (Go.Operand.tmp 5),
                                    type := 3 },
                                  { dst := Option.some 14, g := Go.Am.QG.no,
                                    op := Go.Op.indexAddr 26 (Go.Operand.tmp 12) (Go.Operand.tmp 13), type := 0 },
                                  { dst := Option.some 15, g := Go.Am.QG.no, op := Go.Op.load 28 (Go.Operand.tmp 14),
                                    type := 28 },
                                  { dst := Option.some 16, g := Go.Am.QG.no,
                                    op :=
                                      Go.Op.call
                                        { callee := Go.Callee.value (Go.Operand.tmp 11),
                                          args := { toList := [Go.Operand.tmp 15] }, argTypes := { toList := [28] } },
                                    type := 4 }]).seq
                            (Go.Am.QC.cond (Go.Operand.tmp 16)
                              ((Go.Am.QC.plain
                                    [{ dst := Option.some 17, g := Go.Am.QG.no, op := Go.Op.move (Go.Operand.tmp 5),
                                        type := 3 },
                                      { dst := Option.some 4, g := Go.Am.QG.no, op := Go.Op.assign (Go.Operand.tmp 17),
                                        type := 3 }]).seq
                                Go.Am.QC.ret)
                              Go.Am.QC.skip)))).seq
                    (Go.Am.QC.plain
                      [{ dst := Option.some 18, g := Go.Am.QG.no,
                          op :=
                            Go.Op.binOp Go.BinOp.add 3 (Go.Operand.tmp 8)
                              (Go.Operand.const (Go.Value.int Go.IntKind.i64 (Int.ofNat 1))) 3,
                          type := 3 },
                        { dst := Option.some 8, g := Go.Am.QG.no, op := Go.Op.move (Go.Operand.tmp 18),
                          type := 3 }])))).loop)).seq
      ((Go.Am.QC.plain
            [{ dst := Option.some 4, g := Go.Am.QG.no,
                op := Go.Op.assign (Go.Operand.const (Go.Value.int Go.IntKind.i64 (Int.negSucc 0))), type := 3 }]).seq
        Go.Am.QC.ret)))
theorem q67_ok : bodyComp Tryd.prog 67 = some q67 := by kernel_rfl
noncomputable def q78 : QC :=
  ((Go.Am.QC.plain
        [{ dst := Option.some 3, g := Go.Am.QG.no, op := Go.Op.box 111 (Go.Operand.tmp 1), type := 0 },
          { dst := Option.some 4, g := Go.Am.QG.no,
            op := Go.Op.assign (Go.Operand.const (Go.Value.int Go.IntKind.i64 (Int.ofNat 0))), type := 3 }]).seq
    ((Go.Am.QC.plain
          [{ dst := Option.some 5, g := Go.Am.QG.no, op := Go.Op.move (Go.Operand.tmp 0), type := 73 },
            { dst := Option.some 6, g := Go.Am.QG.no, op := Go.Op.move (Go.Operand.tmp 0), type := 73 },
            { dst := Option.some 7, g := Go.Am.QG.no, op := Go.Op.nilCheck (Go.Operand.tmp 6), type := 0 },
            { dst := Option.some 8, g := Go.Am.QG.no, op := Go.Op.fieldAddr 92 (Go.Operand.tmp 7) 0, type := 0 },
            { dst := Option.some 9, g := Go.Am.QG.no, op := Go.Op.load 90 (Go.Operand.tmp 8), type := 90 },
            { dst := Option.some 10, g := Go.Am.QG.no, op := Go.Op.load 111 (Go.Operand.tmp 3), type := 111 },
            { dst := Option.some 11, g := Go.Am.QG.no,
              op := Go.Op.buildSlice 90 1 { toList := [(0, Go.Operand.tmp 10)] }, type := 90 },
            { dst := Option.some 12, g := Go.Am.QG.no,
              op :=
                Go.Op.call
                  { callee := Go.Callee.builtin Go.Builtin.append,
                    args := { toList := [Go.Operand.tmp 9, Go.Operand.tmp 11] }, argTypes := { toList := [90, 90] } },
              type := 90 },
            { dst := Option.some 13, g := Go.Am.QG.no, op := Go.Op.nilCheck (Go.Operand.tmp 5), type := 0 },
            { dst := Option.some 14, g := Go.Am.QG.no, op := Go.Op.fieldAddr 92 (Go.Operand.tmp 13) 0, type := 0 },
            { dst := Option.none, g := Go.Am.QG.no, op := Go.Op.store 90 (Go.Operand.tmp 14) (Go.Operand.tmp 12),
              type := 0 }]).seq
      ((Go.Am.QC.plain
            [{ dst := Option.some 15, g := Go.Am.QG.no, op := Go.Op.move (Go.Operand.tmp 0), type := 73 },
              { dst := Option.some 16, g := Go.Am.QG.no, op := Go.Op.nilCheck (Go.Operand.tmp 15), type := 0 },
              { dst := Option.some 17, g := Go.Am.QG.no, op := Go.Op.fieldAddr 92 (Go.Operand.tmp 16) 0, type := 0 },
              { dst := Option.some 18, g := Go.Am.QG.no, op := Go.Op.load 90 (Go.Operand.tmp 17), type := 90 },
              { dst := Option.some 19, g := Go.Am.QG.no,
                op :=
                  Go.Op.call
                    { callee := Go.Callee.builtin Go.Builtin.len, args := { toList := [Go.Operand.tmp 18] },
                      argTypes := { toList := [90] } },
                type := 3 },
              { dst := Option.some 20, g := Go.Am.QG.no,
                op :=
                  Go.Op.binOp Go.BinOp.sub 3 (Go.Operand.tmp 19)
                    (Go.Operand.const (Go.Value.int Go.IntKind.i64 (Int.ofNat 1))) 3,
                type := 3 },
              { dst := Option.some 4, g := Go.Am.QG.no, op := Go.Op.assign (Go.Operand.tmp 20), type := 3 }]).seq
        Go.Am.QC.ret)))
theorem q78_ok : bodyComp Tryd.prog 78 = some q78 := by kernel_rfl
noncomputable def q79 : QC :=
  ((Go.Am.QC.plain
        [{ dst := Option.some 6, g := Go.Am.QG.no,
            op := Go.Op.assign (Go.Operand.const (Go.Value.slice Option.none 0 0)), type := 23 }]).seq
    (((Go.Am.QC.plain
              [{ dst := Option.some 9, g := Go.Am.QG.no, op := Go.Op.move (Go.Operand.tmp 1), type := 26 },
                { dst := Option.some 10, g := Go.Am.QG.no,
                  op :=
                    Go.Op.call
                      { callee := Go.Callee.builtin Go.Builtin.len, args := { toList := [Go.Operand.tmp 9] },
                        argTypes := { toList := [26] } },
                  type := 3 },
                { dst := Option.some 11, g := Go.Am.QG.no,
                  op := Go.Op.move (Go.Operand.const (Go.Value.int Go.IntKind.i64 (Int.ofNat 0))), type := 3 }]).seq
          (Go.Am.QC.block 0
            ((Go.Am.QC.plain
                    [{ dst := Option.some 12, g := Go.Am.QG.no,
                        op := Go.Op.binOp Go.BinOp.lss 3 (Go.Operand.tmp 11) (Go.Operand.tmp 10) 3, type := 0 }]).seq
                ((Go.Am.QC.cond (Go.Operand.tmp 12) Go.Am.QC.skip (Go.Am.QC.exit 0)).seq
                  ((Go.Am.QC.block 1
                        ((Go.Am.QC.plain
                              [{ dst := Option.some 13, g := Go.Am.QG.no,
                                  op := Go.Op.indexAddr 26 (Go.Operand.tmp 9) (Go.Operand.tmp 11), type := 0 },
                                { dst := Option.some 14, g := Go.Am.QG.no, op := Go.Op.load 28 (Go.Operand.tmp 13),
                                  type := 28 },
                                { dst := Option.some 8, g := Go.Am.QG.no, op := Go.Op.alloc 28, type := 0 },
                                { dst := Option.none, g := Go.Am.QG.no,
                                  op := Go.Op.store 28 (Go.Operand.tmp 8) (Go.Operand.tmp 14), type := 0 }]).seq
                          (Go.Am.QC.plain
                            [{ dst := Option.some 15, g := Go.Am.QG.no, op := Go.Op.move (Go.Operand.tmp 6),
                                type := 23 },
                              { dst := Option.some 16, g := Go.Am.QG.no, op := Go.Op.move (Go.Operand.tmp 0),
                                type := 73 },
                              { dst := Option.some 17, g := Go.Am.QG.no, op := Go.Op.load 28 (Go.Operand.tmp 8),
                                type := 28 },
                              { dst := Option.some 18, g := Go.Am.QG.no, op := Go.Op.move (Go.Operand.tmp 2),
                                type := 3 },
                              { dst := Option.some 19, g := Go.Am.QG.no,
                                op :=
                                  Go.Op.call
                                    { callee := Go.Callee.value (Go.Operand.func 63),
                                      args := { toList := [Go.Operand.tmp 16, Go.Operand.tmp 17, Go.Operand.tmp 18] },
                                      argTypes := { toList := [73, 28, 3] } },
                                type := 3 },
                              { dst := Option.some 20, g := Go.Am.QG.no,
                                op := Go.Op.buildSlice 23 1 { toList := [(0, Go.Operand.tmp 19)] }, type := 23 },
                              { dst := Option.some 21, g := Go.Am.QG.no,
                                op :=
                                  Go.Op.call
                                    { callee := Go.Callee.builtin Go.Builtin.append,
                                      args := { toList := [Go.Operand.tmp 15, Go.Operand.tmp 20] },
                                      argTypes := { toList := [23, 23] } },
                                type := 23 },
                              { dst := Option.some 6, g := Go.Am.QG.no, op := Go.Op.assign (Go.Operand.tmp 21),
                                type := 23 }]))).seq
                    (Go.Am.QC.plain
                      [{ dst := Option.some 22, g := Go.Am.QG.no,
                          op :=
                            Go.Op.binOp Go.BinOp.add 3 (Go.Operand.tmp 11)
                              (Go.Operand.const (Go.Value.int Go.IntKind.i64 (Int.ofNat 1))) 3,
                          type := 3 },
                        { dst := Option.some 11, g := Go.Am.QG.no, op := Go.Op.move (Go.Operand.tmp 22),
                          type := 3 }])))).loop)).seq
      ((Go.Am.QC.plain
            [{ dst := Option.some 23, g := Go.Am.QG.no, op := Go.Op.move (Go.Operand.tmp 6), type := 23 },
              { dst := Option.some 6, g := Go.Am.QG.no, op := Go.Op.assign (Go.Operand.tmp 23), type := 23 }]).seq
        Go.Am.QC.ret)))
theorem q79_ok : bodyComp Tryd.prog 79 = some q79 := by kernel_rfl
noncomputable def q80 : QC :=
  ((Go.Am.QC.plain
        [{ dst := Option.some 4, g := Go.Am.QG.no, op := Go.Op.box 28 (Go.Operand.tmp 1), type := 0 },
          { dst := Option.some 6, g := Go.Am.QG.no,
            op := Go.Op.assign (Go.Operand.const (Go.Value.int Go.IntKind.i64 (Int.ofNat 0))), type := 3 },
          { dst := Option.some 7, g := Go.Am.QG.no,
            op := Go.Op.assign (Go.Operand.const (Go.Value.int Go.IntKind.i64 (Int.ofNat 0))), type := 3 }]).seq
    ((Go.Am.QC.plain
          [{ dst := Option.some 8, g := Go.Am.QG.no, op := Go.Op.move (Go.Operand.tmp 0), type := 73 },
            { dst := Option.some 9, g := Go.Am.QG.no,
              op :=
                Go.Op.call
                  { callee := Go.Callee.value (Go.Operand.func 62),
                    args := { toList := [Go.Operand.tmp 8, Go.Operand.const (Go.Value.slice Option.none 0 0)] },
                    argTypes := { toList := [73, 23] } },
              type := 3 },
            { dst := Option.some 6, g := Go.Am.QG.no, op := Go.Op.assign (Go.Operand.tmp 9), type := 3 }]).seq
      ((Go.Am.QC.plain
            [{ dst := Option.some 10, g := Go.Am.QG.no, op := Go.Op.move (Go.Operand.tmp 0), type := 73 },
              { dst := Option.some 11, g := Go.Am.QG.no, op := Go.Op.load 28 (Go.Operand.tmp 4), type := 28 },
              { dst := Option.some 12, g := Go.Am.QG.no, op := Go.Op.move (Go.Operand.tmp 6), type := 3 },
              { dst := Option.some 13, g := Go.Am.QG.no,
                op :=
                  Go.Op.call
                    { callee := Go.Callee.value (Go.Operand.func 63),
                      args := { toList := [Go.Operand.tmp 10, Go.Operand.tmp 11, Go.Operand.tmp 12] },
                      argTypes := { toList := [73, 28, 3] } },
                type := 3 },
              { dst := Option.some 7, g := Go.Am.QG.no, op := Go.Op.assign (Go.Operand.tmp 13), type := 3 }]).seq
        ((Go.Am.QC.plain
              [{ dst := Option.some 14, g := Go.Am.QG.no, op := Go.Op.move (Go.Operand.tmp 0), type := 73 },
                { dst := Option.some 15, g := Go.Am.QG.no, op := Go.Op.nilCheck (Go.Operand.tmp 14), type := 0 },
                { dst := Option.some 16, g := Go.Am.QG.no, op := Go.Op.fieldAddr 92 (Go.Operand.tmp 15) 0, type := 0 },
                { dst := Option.some 17, g := Go.Am.QG.no, op := Go.Op.load 90 (Go.Operand.tmp 16), type := 90 },
                { dst := Option.some 18, g := Go.Am.QG.no, op := Go.Op.move (Go.Operand.tmp 6), type := 3 },
                { dst := Option.some 19, g := Go.Am.QG.no, op := Go.Op.move (Go.Operand.tmp 7), type := 3 },
                { dst := Option.some 20, g := Go.Am.QG.no, op := Go.Op.move (Go.Operand.tmp 2), type := 3 },
                { dst := Option.some 21, g := Go.Am.QG.no,
                  op := Go.Op.buildSlice 23 2 { toList := [(0, Go.Operand.tmp 19), (1, Go.Operand.tmp 20)] },
                  type := 23 },
                { dst := Option.some 22, g := Go.Am.QG.no,
                  op := Go.Op.indexAddr 90 (Go.Operand.tmp 17) (Go.Operand.tmp 18), type := 0 },
                { dst := Option.some 23, g := Go.Am.QG.no, op := Go.Op.fieldAddr 111 (Go.Operand.tmp 22) 1, type := 0 },
                { dst := Option.none, g := Go.Am.QG.no, op := Go.Op.store 23 (Go.Operand.tmp 23) (Go.Operand.tmp 21),
                  type := 0 }]).seq
          ((Go.Am.QC.plain
                [{ dst := Option.some 24, g := Go.Am.QG.no, op := Go.Op.move (Go.Operand.tmp 6), type := 3 },
                  { dst := Option.some 25, g := Go.Am.QG.no, op := Go.Op.move (Go.Operand.tmp 7), type := 3 },
                  { dst := Option.some 6, g := Go.Am.QG.no, op := Go.Op.assign (Go.Operand.tmp 24), type := 3 },
                  { dst := Option.some 7, g := Go.Am.QG.no, op := Go.Op.assign (Go.Operand.tmp 25), type := 3 }]).seq
            Go.Am.QC.ret)))))
theorem q80_ok : bodyComp Tryd.prog 80 = some q80 := by kernel_rfl
noncomputable def q81 : QC :=
  ((Go.Am.QC.plain
        [{ dst := Option.some 4, g := Go.Am.QG.no, op := Go.Op.box 28 (Go.Operand.tmp 1), type := 0 },
          { dst := Option.some 6, g := Go.Am.QG.no,
            op := Go.Op.assign (Go.Operand.const (Go.Value.int Go.IntKind.i64 (Int.ofNat 0))), type := 3 }]).seq
    ((Go.Am.QC.plain
          [{ dst := Option.some 9, g := Go.Am.QG.no, op := Go.Op.move (Go.Operand.tmp 2), type := 3 },
            { dst := Option.some 7, g := Go.Am.QG.no, op := Go.Op.assign (Go.Operand.tmp 9), type := 3 }]).seq
      (((Go.Am.QC.plain
                [{ dst := Option.some 10, g := Go.Am.QG.no, op := Go.Op.fieldAddr 28 (Go.Operand.tmp 4) 3, type := 0 },
                  { dst := Option.some 11, g := Go.Am.QG.no, op := Go.Op.load 3 (Go.Operand.tmp 10), type := 3 },
                  { dst := Option.some 8, g := Go.Am.QG.no, op := Go.Op.assign (Go.Operand.tmp 11), type := 3 }]).seq
            (Go.Am.QC.block 0
              (((Go.Am.QC.plain
                          [{ dst := Option.some 12, g := Go.Am.QG.no, op := Go.Op.move (Go.Operand.tmp 8), type := 3 },
                            { dst := Option.some 13, g := Go.Am.QG.no,
                              op :=
                                Go.Op.binOp Go.BinOp.geq 3 (Go.Operand.tmp 12)
                                  (Go.Operand.const (Go.Value.int Go.IntKind.i64 (Int.ofNat 1))) 3,
                              type := 4 }]).seq
                      (Go.Am.QC.cond (Go.Operand.tmp 13) Go.Am.QC.skip (Go.Am.QC.exit 0))).seq
                  ((Go.Am.QC.block 1
                        ((Go.Am.QC.plain
                              [{ dst := Option.some 16, g := Go.Am.QG.no, op := Go.Op.move (Go.Operand.tmp 0),
                                  type := 73 },
                                { dst := Option.some 17, g := Go.Am.QG.no,
                                  op := Go.Op.fieldAddr 28 (Go.Operand.tmp 4) 4, type := 0 },
                                { dst := Option.some 18, g := Go.Am.QG.no, op := Go.Op.load 26 (Go.Operand.tmp 17),
                                  type := 26 },
                                { dst := Option.some 19, g := Go.Am.QG.no,
                                  op :=
                                    Go.Op.indexAddr 26 (Go.Operand.tmp 18)
                                      (Go.Operand.const (Go.Value.int Go.IntKind.i64 (Int.ofNat 0))),
                                  type := 0 },
                                { dst := Option.some 20, g := Go.Am.QG.no, op := Go.Op.load 28 (Go.Operand.tmp 19),
                                  type := 28 },
                                { dst := Option.some 21, g := Go.Am.QG.no, op := Go.Op.move (Go.Operand.tmp 7),
                                  type := 3 },
                                { dst := Option.some 22, g := Go.Am.QG.no,
                                  op :=
                                    Go.Op.call
                                      { callee := Go.Callee.value (Go.Operand.func 63),
                                        args := { toList := [Go.Operand.tmp 16, Go.Operand.tmp 20, Go.Operand.tmp 21] },
                                        argTypes := { toList := [73, 28, 3] } },
                                  type := 3 },
                                { dst := Option.some 7, g := Go.Am.QG.no, op := Go.Op.assign (Go.Operand.tmp 22),
                                  type := 3 }]).seq
                          ((Go.Am.QC.plain
                                [{ dst := Option.some 23, g := Go.Am.QG.no, op := Go.Op.move (Go.Operand.tmp 8),
                                    type := 3 },
                                  { dst := Option.some 24, g := Go.Am.QG.no,
                                    op := Go.Op.fieldAddr 28 (Go.Operand.tmp 4) 2, type := 0 },
                                  { dst := Option.some 25, g := Go.Am.QG.no, op := Go.Op.load 3 (Go.Operand.tmp 24),
                                    type := 3 },
                                  { dst := Option.some 26, g := Go.Am.QG.no,
                                    op := Go.Op.binOp Go.BinOp.gtr 3 (Go.Operand.tmp 23) (Go.Operand.tmp 25) 3,
                                    type := 4 }]).seq
                            (Go.Am.QC.cond (Go.Operand.tmp 26)
                              (Go.Am.QC.plain
                                [{ dst := Option.some 27, g := Go.Am.QG.no, op := Go.Op.move (Go.Operand.tmp 0),
                                    type := 73 },
                                  { dst := Option.some 28, g := Go.Am.QG.no, op := Go.Op.move (Go.Operand.tmp 7),
                                    type := 3 },
                                  { dst := Option.some 29, g := Go.Am.QG.no, op := Go.Op.move (Go.Operand.tmp 2),
                                    type := 3 },
                                  { dst := Option.some 30, g := Go.Am.QG.no,
                                    op :=
                                      Go.Op.buildSlice 23 2
                                        { toList := [(0, Go.Operand.tmp 28), (1, Go.Operand.tmp 29)] },
                                    type := 23 },
                                  { dst := Option.some 31, g := Go.Am.QG.no,
                                    op :=
                                      Go.Op.call
                                        { callee := Go.Callee.value (Go.Operand.func 62),
                                          args := { toList := [Go.Operand.tmp 27, Go.Operand.tmp 30] },
                                          argTypes := { toList := [73, 23] } },
                                    type := 3 },
                                  { dst := Option.some 7, g := Go.Am.QG.no, op := Go.Op.assign (Go.Operand.tmp 31),
                                    type := 3 }])
                              Go.Am.QC.skip)))).seq
                    (Go.Am.QC.plain
                      [{ dst := Option.some 14, g := Go.Am.QG.no, op := Go.Op.move (Go.Operand.tmp 8), type := 3 },
                        { dst := Option.some 15, g := Go.Am.QG.no,
                          op :=
                            Go.Op.binOp Go.BinOp.sub 3 (Go.Operand.tmp 14)
                              (Go.Operand.const (Go.Value.int Go.IntKind.i64 (Int.ofNat 1))) 3,
                          type := 3 },
                        { dst := Option.some 8, g := Go.Am.QG.no, op := Go.Op.assign (Go.Operand.tmp 15),
                          type := 3 }]))).loop)).seq
        ((Go.Am.QC.plain
              [{ dst := Option.some 32, g := Go.Am.QG.no, op := Go.Op.move (Go.Operand.tmp 7), type := 3 },
                { dst := Option.some 6, g := Go.Am.QG.no, op := Go.Op.assign (Go.Operand.tmp 32), type := 3 }]).seq
          Go.Am.QC.ret))))
theorem q81_ok : bodyComp Tryd.prog 81 = some q81 := by kernel_rfl
noncomputable def qts2 : Tr QC := qtab [(24, q24), (39, q39), (55, q55), (56, q56), (68, q68), (69, q69), (82, q82), (88, q88), (89, q89), (92, q92), (93, q93), (94, q94), (16, q16), (30, q30), (31, q31), (32, q32), (33, q33), (36, q36), (42, q42), (43, q43), (44, q44), (45, q45), (47, q47), (48, q48), (52, q52), (53, q53), (57, q57), (58, q58), (59, q59), (62, q62), (63, q63), (64, q64), (65, q65), (66, q66), (67, q67), (78, q78), (79, q79), (80, q80), (81, q81)]
theorem qok2 : QOk Tryd.prog qts2 := QOk.of fun p hp => by
  simp only [List.mem_cons, List.not_mem_nil, or_false] at hp
  rcases hp with rfl | rfl | rfl | rfl | rfl | rfl | rfl | rfl | rfl | rfl | rfl | rfl | rfl | rfl | rfl | rfl | rfl | rfl | rfl | rfl | rfl | rfl | rfl | rfl | rfl | rfl | rfl | rfl | rfl | rfl | rfl | rfl | rfl | rfl | rfl | rfl | rfl | rfl | rfl
  · exact q24_ok
  · exact q39_ok
  · exact q55_ok
  · exact q56_ok
  · exact q68_ok
  · exact q69_ok
  · exact q82_ok
  · exact q88_ok
  · exact q89_ok
  · exact q92_ok
  · exact q93_ok
  · exact q94_ok
  · exact q16_ok
  · exact q30_ok
  · exact q31_ok
  · exact q32_ok
  · exact q33_ok
  · exact q36_ok
  · exact q42_ok
  · exact q43_ok
  · exact q44_ok
  · exact q45_ok
  · exact q47_ok
  · exact q48_ok
  · exact q52_ok
  · exact q53_ok
  · exact q57_ok
  · exact q58_ok
  · exact q59_ok
  · exact q62_ok
  · exact q63_ok
  · exact q64_ok
  · exact q65_ok
  · exact q66_ok
  · exact q67_ok
  · exact q78_ok
  · exact q79_ok
  · exact q80_ok
  · exact q81_ok
end Go.Proofs.YtfhopcfafbmikaaDoor
