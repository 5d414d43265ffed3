/-
  What is proved: MiniSteady: a machine of Make's is steady just if a letter twice is a letter once: for every x, y, every word. For every argument; one laid table (math/bits) is tied by the card.
-/
import Derived.Test.YtchnlooenomfnaaGreatDoorGAmTop
import Derived.KernelRfl
import Derived.Test.YtchnlooenomfnaaGreatDoorProg
set_option linter.unusedVariables false
set_option linter.unusedSimpArgs false
open Go Go.Am Go.Proofs
namespace Go.Proofs.YtchnlooenomfnaaGreatDoor
set_option maxRecDepth 100000
noncomputable def q10 : QC :=
  ((Go.Am.QC.plain
        [{ dst := Option.some 8, g := Go.Am.QG.no, op := Go.Op.assign (Go.Operand.const (Go.Value.bool Bool.false)),
            type := 4 }]).seq
    (((Go.Am.QC.plain
              [{ dst := Option.some 16, g := Go.Am.QG.no,
                  op :=
                    Go.Op.call
                      { callee := Go.Callee.value (Go.Operand.func 15), args := { toList := [] },
                        argTypes := { toList := [] } },
                  type := 4 },
                { dst := Option.some 17, g := Go.Am.QG.no, op := Go.Op.unOp Go.UnOp.not 4 (Go.Operand.tmp 16),
                  type := 4 }]).seq
          (Go.Am.QC.cond (Go.Operand.tmp 17)
            ((Go.Am.QC.plain
                  [{ dst := Option.some 8, g := Go.Am.QG.no,
                      op := Go.Op.assign (Go.Operand.const (Go.Value.bool Bool.false)), type := 4 }]).seq
              Go.Am.QC.ret)
            Go.Am.QC.skip)).seq
      ((Go.Am.QC.plain
            [{ dst := Option.some 18, g := Go.Am.QG.no, op := Go.Op.move (Go.Operand.tmp 0), type := 3 },
              { dst := Option.some 19, g := Go.Am.QG.no, op := Go.Op.move (Go.Operand.tmp 1), type := 22 },
              { dst := Option.some 20, g := Go.Am.QG.no, op := Go.Op.move (Go.Operand.tmp 2), type := 3 },
              { dst := Option.some 21, g := Go.Am.QG.no,
                op :=
                  Go.Op.call
                    { callee := Go.Callee.value (Go.Operand.func 16),
                      args := { toList := [Go.Operand.tmp 18, Go.Operand.tmp 19, Go.Operand.tmp 20] },
                      argTypes := { toList := [3, 22, 3] } },
                type := 27 },
              { dst := Option.some 9, g := Go.Am.QG.no, op := Go.Op.alloc 27, type := 0 },
              { dst := Option.none, g := Go.Am.QG.no, op := Go.Op.store 27 (Go.Operand.tmp 9) (Go.Operand.tmp 21),
                type := 0 }]).seq
        ((Go.Am.QC.plain
              [{ dst := Option.some 22, g := Go.Am.QG.no, op := Go.Op.load 27 (Go.Operand.tmp 9), type := 27 },
                { dst := Option.some 23, g := Go.Am.QG.no,
                  op :=
                    Go.Op.call
                      { callee := Go.Callee.value (Go.Operand.func 20), args := { toList := [Go.Operand.tmp 22] },
                        argTypes := { toList := [27] } },
                  type := 4 },
                { dst := Option.some 10, g := Go.Am.QG.no, op := Go.Op.assign (Go.Operand.tmp 23), type := 4 }]).seq
          (((Go.Am.QC.plain
                    [{ dst := Option.some 24, g := Go.Am.QG.no, op := Go.Op.move (Go.Operand.tmp 10), type := 4 },
                      { dst := Option.some 25, g := Go.Am.QG.no, op := Go.Op.unOp Go.UnOp.not 4 (Go.Operand.tmp 24),
                        type := 4 }]).seq
                (Go.Am.QC.cond (Go.Operand.tmp 25)
                  (((Go.Am.QC.plain
                            [{ dst := Option.some 11, g := Go.Am.QG.no,
                                op := Go.Op.assign (Go.Operand.const (Go.Value.int Go.IntKind.i64 (Int.ofNat 0))),
                                type := 3 }]).seq
                        (Go.Am.QC.block 0
                          (((Go.Am.QC.plain
                                      [{ dst := Option.some 26, g := Go.Am.QG.no, op := Go.Op.move (Go.Operand.tmp 11),
                                          type := 3 },
                                        { dst := Option.some 27, g := Go.Am.QG.no,
                                          op := Go.Op.fieldAddr 27 (Go.Operand.tmp 9) 0, type := 0 },
                                        { dst := Option.some 28, g := Go.Am.QG.no,
                                          op := Go.Op.load 24 (Go.Operand.tmp 27), type := 24 },
                                        { dst := Option.some 29, g := Go.Am.QG.no,
                                          op :=
                                            Go.Op.call
                                              { callee := Go.Callee.builtin Go.Builtin.len,
                                                args := { toList := [Go.Operand.tmp 28] },
                                                argTypes := { toList := [24] } },
                                          type := 3 },
                                        { dst := Option.some 30, g := Go.Am.QG.no,
                                          op := Go.Op.binOp Go.BinOp.lss 3 (Go.Operand.tmp 26) (Go.Operand.tmp 29) 3,
                                          type := 4 }]).seq
                                  (Go.Am.QC.cond (Go.Operand.tmp 30) Go.Am.QC.skip (Go.Am.QC.exit 0))).seq
                              ((Go.Am.QC.block 1
                                    ((Go.Am.QC.plain
                                          [{ dst := Option.some 12, g := Go.Am.QG.no,
                                              op :=
                                                Go.Op.assign
                                                  (Go.Operand.const (Go.Value.int Go.IntKind.i64 (Int.ofNat 0))),
                                              type := 3 }]).seq
                                      (Go.Am.QC.block 2
                                        (((Go.Am.QC.plain
                                                    [{ dst := Option.some 33, g := Go.Am.QG.no,
                                                        op := Go.Op.move (Go.Operand.tmp 12), type := 3 },
                                                      { dst := Option.some 34, g := Go.Am.QG.no,
                                                        op :=
                                                          Go.Op.binOp Go.BinOp.lss 3 (Go.Operand.tmp 33)
                                                            (Go.Operand.const
                                                              (Go.Value.int Go.IntKind.i64 (Int.ofNat 5)))
                                                            3,
                                                        type := 4 }]).seq
                                                (Go.Am.QC.cond (Go.Operand.tmp 34) Go.Am.QC.skip (Go.Am.QC.exit 2))).seq
                                            ((Go.Am.QC.block 3
                                                  ((Go.Am.QC.drawn
                                                        {
                                                          toList :=
                                                            [{ dst := Option.some 37,
                                                                op := Go.Op.load 27 (Go.Operand.tmp 9), type := 27,
                                                                pos := "law.go:213", after := { toList := [] },
                                                                guard := Option.none },
                                                              { dst := Option.some 38,
                                                                op := Go.Op.move (Go.Operand.tmp 11), type := 3,
                                                                pos := "law.go:213", after := { toList := [] },
                                                                guard := Option.none },
                                                              { dst := Option.some 39,
                                                                op := Go.Op.move (Go.Operand.tmp 12), type := 3,
                                                                pos := "law.go:213", after := { toList := [] },
                                                                guard := Option.none },
                                                              { dst := Option.some 40,
                                                                op :=
                                                                  Go.Op.buildSlice 22 1
                                                                    { toList := [(0, Go.Operand.tmp 39)] },
                                                                type := 22, pos := "law.go:213",
                                                                after :=
                                                                  { toList := [{ on := 2, ground := Go.Ground.data }] },
                                                                guard := Option.none },
                                                              { dst := Option.some 41,
                                                                op :=
                                                                  Go.Op.call
                                                                    { callee := Go.Callee.value (Go.Operand.func 37),
                                                                      args :=
                                                                        {
                                                                          toList :=
                                                                            [Go.Operand.tmp 37, Go.Operand.tmp 38,
                                                                              Go.Operand.tmp 40] },
                                                                      argTypes := { toList := [27, 3, 22] } },
                                                                type := 3, pos := "law.go:213",
                                                                after :=
                                                                  {
                                                                    toList :=
                                                                      [{ on := 0, ground := Go.Ground.data },
                                                                        { on := 1, ground := Go.Ground.data },
                                                                        { on := 3, ground := Go.Ground.data }] },
                                                                guard := Option.none },
                                                              { dst := Option.some 42,
                                                                op := Go.Op.load 27 (Go.Operand.tmp 9), type := 27,
                                                                pos := "law.go:213", after := { toList := [] },
                                                                guard := Option.none },
                                                              { dst := Option.some 43,
                                                                op := Go.Op.move (Go.Operand.tmp 11), type := 3,
                                                                pos := "law.go:213", after := { toList := [] },
                                                                guard := Option.none },
                                                              { dst := Option.some 44,
                                                                op := Go.Op.move (Go.Operand.tmp 12), type := 3,
                                                                pos := "law.go:213", after := { toList := [] },
                                                                guard := Option.none },
                                                              { dst := Option.some 45,
                                                                op := Go.Op.move (Go.Operand.tmp 12), type := 3,
                                                                pos := "law.go:213", after := { toList := [] },
                                                                guard := Option.none },
                                                              { dst := Option.some 46,
                                                                op :=
                                                                  Go.Op.buildSlice 22 2
                                                                    {
                                                                      toList :=
                                                                        [(0, Go.Operand.tmp 44),
                                                                          (1, Go.Operand.tmp 45)] },
                                                                type := 22, pos := "law.go:213",
                                                                after :=
                                                                  {
                                                                    toList :=
                                                                      [{ on := 7, ground := Go.Ground.data },
                                                                        { on := 8, ground := Go.Ground.data }] },
                                                                guard := Option.none },
                                                              { dst := Option.some 47,
                                                                op :=
                                                                  Go.Op.call
                                                                    { callee := Go.Callee.value (Go.Operand.func 37),
                                                                      args :=
                                                                        {
                                                                          toList :=
                                                                            [Go.Operand.tmp 42, Go.Operand.tmp 43,
                                                                              Go.Operand.tmp 46] },
                                                                      argTypes := { toList := [27, 3, 22] } },
                                                                type := 3, pos := "law.go:213",
                                                                after :=
                                                                  {
                                                                    toList :=
                                                                      [{ on := 5, ground := Go.Ground.data },
                                                                        { on := 6, ground := Go.Ground.data },
                                                                        { on := 9, ground := Go.Ground.data },
                                                                        { on := 4, ground := Go.Ground.chain }] },
                                                                guard := Option.none },
                                                              { dst := Option.some 48,
                                                                op :=
                                                                  Go.Op.binOp Go.BinOp.neq 3 (Go.Operand.tmp 41)
                                                                    (Go.Operand.tmp 47) 3,
                                                                type := 4, pos := "law.go:213",
                                                                after :=
                                                                  {
                                                                    toList :=
                                                                      [{ on := 4, ground := Go.Ground.data },
                                                                        { on := 10, ground := Go.Ground.data }] },
                                                                guard := Option.none }] }
                                                        [0, 0, 0, 4, 15, 0, 0, 0, 0, 384, 1023, 2047] [5]
                                                        Option.none).seq
                                                    (Go.Am.QC.cond (Go.Operand.tmp 48)
                                                      ((Go.Am.QC.plain
                                                            [{ dst := Option.some 8, g := Go.Am.QG.no,
                                                                op :=
                                                                  Go.Op.assign
                                                                    (Go.Operand.const (Go.Value.bool Bool.true)),
                                                                type := 4 }]).seq
                                                        Go.Am.QC.ret)
                                                      Go.Am.QC.skip))).seq
                                              (Go.Am.QC.plain
                                                [{ dst := Option.some 35, g := Go.Am.QG.no,
                                                    op := Go.Op.move (Go.Operand.tmp 12), type := 3 },
                                                  { dst := Option.some 36, g := Go.Am.QG.no,
                                                    op :=
                                                      Go.Op.binOp Go.BinOp.add 3 (Go.Operand.tmp 35)
                                                        (Go.Operand.const (Go.Value.int Go.IntKind.i64 (Int.ofNat 1)))
                                                        3,
                                                    type := 3 },
                                                  { dst := Option.some 12, g := Go.Am.QG.no,
                                                    op := Go.Op.assign (Go.Operand.tmp 36), type := 3 }]))).loop))).seq
                                (Go.Am.QC.plain
                                  [{ dst := Option.some 31, g := Go.Am.QG.no, op := Go.Op.move (Go.Operand.tmp 11),
                                      type := 3 },
                                    { dst := Option.some 32, g := Go.Am.QG.no,
                                      op :=
                                        Go.Op.binOp Go.BinOp.add 3 (Go.Operand.tmp 31)
                                          (Go.Operand.const (Go.Value.int Go.IntKind.i64 (Int.ofNat 1))) 3,
                                      type := 3 },
                                    { dst := Option.some 11, g := Go.Am.QG.no, op := Go.Op.assign (Go.Operand.tmp 32),
                                      type := 3 }]))).loop)).seq
                    ((Go.Am.QC.plain
                          [{ dst := Option.some 8, g := Go.Am.QG.no,
                              op := Go.Op.assign (Go.Operand.const (Go.Value.bool Bool.false)), type := 4 }]).seq
                      Go.Am.QC.ret))
                  Go.Am.QC.skip)).seq
            ((Go.Am.QC.plain
                  [{ dst := Option.some 49, g := Go.Am.QG.no, op := Go.Op.move (Go.Operand.tmp 3), type := 22 },
                    { dst := Option.some 50, g := Go.Am.QG.no,
                      op :=
                        Go.Op.call
                          { callee := Go.Callee.value (Go.Operand.func 24),
                            args :=
                              {
                                toList :=
                                  [Go.Operand.tmp 49, Go.Operand.const (Go.Value.int Go.IntKind.i64 (Int.ofNat 10)),
                                    Go.Operand.const (Go.Value.int Go.IntKind.i64 (Int.ofNat 4))] },
                            argTypes := { toList := [22, 3, 3] } },
                      type := 22 },
                    { dst := Option.some 13, g := Go.Am.QG.no, op := Go.Op.assign (Go.Operand.tmp 50),
                      type := 22 }]).seq
              ((Go.Am.QC.plain
                    [{ dst := Option.some 14, g := Go.Am.QG.no,
                        op := Go.Op.assign (Go.Operand.const (Go.Value.slice Option.none 0 0)), type := 22 }]).seq
                (((Go.Am.QC.plain
                          [{ dst := Option.some 15, g := Go.Am.QG.no,
                              op := Go.Op.assign (Go.Operand.const (Go.Value.int Go.IntKind.i64 (Int.ofNat 0))),
                              type := 3 }]).seq
                      (Go.Am.QC.block 4
                        (((Go.Am.QC.plain
                                    [{ dst := Option.some 51, g := Go.Am.QG.no, op := Go.Op.move (Go.Operand.tmp 15),
                                        type := 3 },
                                      { dst := Option.some 52, g := Go.Am.QG.no, op := Go.Op.move (Go.Operand.tmp 13),
                                        type := 22 },
                                      { dst := Option.some 53, g := Go.Am.QG.no,
                                        op :=
                                          Go.Op.call
                                            { callee := Go.Callee.builtin Go.Builtin.len,
                                              args := { toList := [Go.Operand.tmp 52] },
                                              argTypes := { toList := [22] } },
                                        type := 3 },
                                      { dst := Option.some 54, g := Go.Am.QG.no,
                                        op := Go.Op.binOp Go.BinOp.lss 3 (Go.Operand.tmp 51) (Go.Operand.tmp 53) 3,
                                        type := 4 }]).seq
                                (Go.Am.QC.cond (Go.Operand.tmp 54) Go.Am.QC.skip (Go.Am.QC.exit 4))).seq
                            ((Go.Am.QC.block 5
                                  (Go.Am.QC.plain
                                    [{ dst := Option.some 57, g := Go.Am.QG.no, op := Go.Op.move (Go.Operand.tmp 14),
                                        type := 22 },
                                      { dst := Option.some 58, g := Go.Am.QG.no, op := Go.Op.move (Go.Operand.tmp 13),
                                        type := 22 },
                                      { dst := Option.some 59, g := Go.Am.QG.no, op := Go.Op.move (Go.Operand.tmp 15),
                                        type := 3 },
                                      { dst := Option.some 60, g := Go.Am.QG.no,
                                        op := Go.Op.indexAddr 22 (Go.Operand.tmp 58) (Go.Operand.tmp 59), type := 0 },
                                      { dst := Option.some 61, g := Go.Am.QG.no, op := Go.Op.load 3 (Go.Operand.tmp 60),
                                        type := 3 },
                                      { dst := Option.some 62, g := Go.Am.QG.no, op := Go.Op.move (Go.Operand.tmp 13),
                                        type := 22 },
                                      { dst := Option.some 63, g := Go.Am.QG.no, op := Go.Op.move (Go.Operand.tmp 15),
                                        type := 3 },
                                      { dst := Option.some 64, g := Go.Am.QG.no,
                                        op := Go.Op.indexAddr 22 (Go.Operand.tmp 62) (Go.Operand.tmp 63), type := 0 },
                                      { dst := Option.some 65, g := Go.Am.QG.no, op := Go.Op.load 3 (Go.Operand.tmp 64),
                                        type := 3 },
                                      { dst := Option.some 66, g := Go.Am.QG.no,
                                        op :=
                                          Go.Op.buildSlice 22 2
                                            { toList := [(0, Go.Operand.tmp 61), (1, Go.Operand.tmp 65)] },
                                        type := 22 },
                                      { dst := Option.some 67, g := Go.Am.QG.no,
                                        op :=
                                          Go.Op.call
                                            { callee := Go.Callee.builtin Go.Builtin.append,
                                              args := { toList := [Go.Operand.tmp 57, Go.Operand.tmp 66] },
                                              argTypes := { toList := [22, 22] } },
                                        type := 22 },
                                      { dst := Option.some 14, g := Go.Am.QG.no, op := Go.Op.assign (Go.Operand.tmp 67),
                                        type := 22 }])).seq
                              (Go.Am.QC.plain
                                [{ dst := Option.some 55, g := Go.Am.QG.no, op := Go.Op.move (Go.Operand.tmp 15),
                                    type := 3 },
                                  { dst := Option.some 56, g := Go.Am.QG.no,
                                    op :=
                                      Go.Op.binOp Go.BinOp.add 3 (Go.Operand.tmp 55)
                                        (Go.Operand.const (Go.Value.int Go.IntKind.i64 (Int.ofNat 1))) 3,
                                    type := 3 },
                                  { dst := Option.some 15, g := Go.Am.QG.no, op := Go.Op.assign (Go.Operand.tmp 56),
                                    type := 3 }]))).loop)).seq
                  ((Go.Am.QC.drawn
                        {
                          toList :=
                            [{ dst := Option.some 68, op := Go.Op.load 27 (Go.Operand.tmp 9), type := 27,
                                pos := "law.go:225", after := { toList := [] }, guard := Option.none },
                              { dst := Option.some 69, op := Go.Op.move (Go.Operand.tmp 13), type := 22,
                                pos := "law.go:225", after := { toList := [] }, guard := Option.none },
                              { dst := Option.some 70,
                                op :=
                                  Go.Op.call
                                    { callee := Go.Callee.value (Go.Operand.func 37),
                                      args :=
                                        {
                                          toList :=
                                            [Go.Operand.tmp 68,
                                              Go.Operand.const (Go.Value.int Go.IntKind.i64 (Int.ofNat 0)),
                                              Go.Operand.tmp 69] },
                                      argTypes := { toList := [27, 3, 22] } },
                                type := 3, pos := "law.go:225",
                                after :=
                                  {
                                    toList :=
                                      [{ on := 0, ground := Go.Ground.data }, { on := 1, ground := Go.Ground.data }] },
                                guard := Option.none },
                              { dst := Option.some 71, op := Go.Op.load 27 (Go.Operand.tmp 9), type := 27,
                                pos := "law.go:225", after := { toList := [] }, guard := Option.none },
                              { dst := Option.some 72, op := Go.Op.move (Go.Operand.tmp 14), type := 22,
                                pos := "law.go:225", after := { toList := [] }, guard := Option.none },
                              { dst := Option.some 73,
                                op :=
                                  Go.Op.call
                                    { callee := Go.Callee.value (Go.Operand.func 37),
                                      args :=
                                        {
                                          toList :=
                                            [Go.Operand.tmp 71,
                                              Go.Operand.const (Go.Value.int Go.IntKind.i64 (Int.ofNat 0)),
                                              Go.Operand.tmp 72] },
                                      argTypes := { toList := [27, 3, 22] } },
                                type := 3, pos := "law.go:225",
                                after :=
                                  {
                                    toList :=
                                      [{ on := 3, ground := Go.Ground.data }, { on := 4, ground := Go.Ground.data },
                                        { on := 2, ground := Go.Ground.chain }] },
                                guard := Option.none },
                              { dst := Option.some 74,
                                op := Go.Op.binOp Go.BinOp.eql 3 (Go.Operand.tmp 70) (Go.Operand.tmp 73) 3, type := 4,
                                pos := "law.go:225",
                                after :=
                                  {
                                    toList :=
                                      [{ on := 2, ground := Go.Ground.data }, { on := 5, ground := Go.Ground.data }] },
                                guard := Option.none },
                              { dst := Option.some 8, op := Go.Op.assign (Go.Operand.tmp 74), type := 4,
                                pos := "law.go:225",
                                after :=
                                  {
                                    toList :=
                                      [{ on := 6, ground := Go.Ground.data }, { on := 5, ground := Go.Ground.chain },
                                        { on := 0, ground := Go.Ground.phase }, { on := 1, ground := Go.Ground.phase },
                                        { on := 2, ground := Go.Ground.phase }, { on := 3, ground := Go.Ground.phase },
                                        { on := 4, ground := Go.Ground.phase }, { on := 5, ground := Go.Ground.phase },
                                        { on := 6, ground := Go.Ground.phase }] },
                                guard := Option.none }] }
                        [0, 0, 3, 0, 0, 31, 63, 127] [3] Option.none).seq
                    Go.Am.QC.ret)))))))))
theorem q10_ok : bodyComp Tryz.prog 10 = some q10 := by kernel_rfl
noncomputable def q16 : QC :=
  ((Go.Am.QC.plain [{ dst := Option.some 6, g := Go.Am.QG.no, op := Go.Op.alloc 27, type := 0 }]).seq
    ((Go.Am.QC.plain [{ dst := Option.some 7, g := Go.Am.QG.no, op := Go.Op.alloc 27, type := 0 }]).seq
      ((Go.Am.QC.plain
            [{ dst := Option.some 13, g := Go.Am.QG.no, op := Go.Op.move (Go.Operand.tmp 0), type := 3 },
              { dst := Option.some 14, g := Go.Am.QG.no,
                op :=
                  Go.Op.call
                    { callee := Go.Callee.value (Go.Operand.func 40),
                      args :=
                        { toList := [Go.Operand.tmp 13, Go.Operand.const (Go.Value.int Go.IntKind.i64 (Int.ofNat 9))] },
                      argTypes := { toList := [3, 3] } },
                type := 3 },
              { dst := Option.some 15, g := Go.Am.QG.no,
                op :=
                  Go.Op.binOp Go.BinOp.add 3 (Go.Operand.const (Go.Value.int Go.IntKind.i64 (Int.ofNat 1)))
                    (Go.Operand.tmp 14) 3,
                type := 3 },
              { dst := Option.some 8, g := Go.Am.QG.no, op := Go.Op.assign (Go.Operand.tmp 15), type := 3 }]).seq
        (((Go.Am.QC.plain
                  [{ dst := Option.some 9, g := Go.Am.QG.no,
                      op := Go.Op.assign (Go.Operand.const (Go.Value.int Go.IntKind.i64 (Int.ofNat 0))),
                      type := 3 }]).seq
              (Go.Am.QC.block 0
                (((Go.Am.QC.plain
                            [{ dst := Option.some 16, g := Go.Am.QG.no, op := Go.Op.move (Go.Operand.tmp 9),
                                type := 3 },
                              { dst := Option.some 17, g := Go.Am.QG.no, op := Go.Op.move (Go.Operand.tmp 8),
                                type := 3 },
                              { dst := Option.some 18, g := Go.Am.QG.no,
                                op := Go.Op.binOp Go.BinOp.lss 3 (Go.Operand.tmp 16) (Go.Operand.tmp 17) 3,
                                type := 4 }]).seq
                        (Go.Am.QC.cond (Go.Operand.tmp 18) Go.Am.QC.skip (Go.Am.QC.exit 0))).seq
                    ((Go.Am.QC.block 1
                          ((Go.Am.QC.plain
                                [{ dst := Option.some 10, g := Go.Am.QG.no, op := Go.Op.alloc 62, type := 0 }]).seq
                            (((Go.Am.QC.plain
                                      [{ dst := Option.some 11, g := Go.Am.QG.no,
                                          op :=
                                            Go.Op.assign (Go.Operand.const (Go.Value.int Go.IntKind.i64 (Int.ofNat 0))),
                                          type := 3 }]).seq
                                  (Go.Am.QC.block 2
                                    (((Go.Am.QC.plain
                                                [{ dst := Option.some 21, g := Go.Am.QG.no,
                                                    op := Go.Op.move (Go.Operand.tmp 11), type := 3 },
                                                  { dst := Option.some 22, g := Go.Am.QG.no,
                                                    op :=
                                                      Go.Op.binOp Go.BinOp.lss 3 (Go.Operand.tmp 21)
                                                        (Go.Operand.const (Go.Value.int Go.IntKind.i64 (Int.ofNat 5)))
                                                        3,
                                                    type := 4 }]).seq
                                            (Go.Am.QC.cond (Go.Operand.tmp 22) Go.Am.QC.skip (Go.Am.QC.exit 2))).seq
                                        ((Go.Am.QC.block 3
                                              ((Go.Am.QC.plain
                                                    [{ dst := Option.some 25, g := Go.Am.QG.no,
                                                        op := Go.Op.move (Go.Operand.tmp 9), type := 3 },
                                                      { dst := Option.some 26, g := Go.Am.QG.no,
                                                        op :=
                                                          Go.Op.binOp Go.BinOp.mul 3
                                                            (Go.Operand.const
                                                              (Go.Value.int Go.IntKind.i64 (Int.ofNat 5)))
                                                            (Go.Operand.tmp 25) 3,
                                                        type := 3 },
                                                      { dst := Option.some 27, g := Go.Am.QG.no,
                                                        op := Go.Op.move (Go.Operand.tmp 11), type := 3 },
                                                      { dst := Option.some 28, g := Go.Am.QG.no,
                                                        op :=
                                                          Go.Op.binOp Go.BinOp.add 3 (Go.Operand.tmp 26)
                                                            (Go.Operand.tmp 27) 3,
                                                        type := 3 },
                                                      { dst := Option.some 12, g := Go.Am.QG.no,
                                                        op := Go.Op.assign (Go.Operand.tmp 28), type := 3 }]).seq
                                                ((Go.Am.QC.plain
                                                      [{ dst := Option.some 29, g := Go.Am.QG.no,
                                                          op := Go.Op.move (Go.Operand.tmp 12), type := 3 },
                                                        { dst := Option.some 30, g := Go.Am.QG.no,
                                                          op := Go.Op.move (Go.Operand.tmp 1), type := 22 },
                                                        { dst := Option.some 31, g := Go.Am.QG.no,
                                                          op :=
                                                            Go.Op.call
                                                              { callee := Go.Callee.builtin Go.Builtin.len,
                                                                args := { toList := [Go.Operand.tmp 30] },
                                                                argTypes := { toList := [22] } },
                                                          type := 3 },
                                                        { dst := Option.some 32, g := Go.Am.QG.no,
                                                          op :=
                                                            Go.Op.binOp Go.BinOp.lss 3 (Go.Operand.tmp 29)
                                                              (Go.Operand.tmp 31) 3,
                                                          type := 4 }]).seq
                                                  (Go.Am.QC.cond (Go.Operand.tmp 32)
                                                    (Go.Am.QC.plain
                                                      [{ dst := Option.some 33, g := Go.Am.QG.no,
                                                          op := Go.Op.move (Go.Operand.tmp 11), type := 3 },
                                                        { dst := Option.some 34, g := Go.Am.QG.no,
                                                          op := Go.Op.move (Go.Operand.tmp 1), type := 22 },
                                                        { dst := Option.some 35, g := Go.Am.QG.no,
                                                          op := Go.Op.move (Go.Operand.tmp 12), type := 3 },
                                                        { dst := Option.some 36, g := Go.Am.QG.no,
                                                          op :=
                                                            Go.Op.indexAddr 22 (Go.Operand.tmp 34) (Go.Operand.tmp 35),
                                                          type := 0 },
                                                        { dst := Option.some 37, g := Go.Am.QG.no,
                                                          op := Go.Op.load 3 (Go.Operand.tmp 36), type := 3 },
                                                        { dst := Option.some 38, g := Go.Am.QG.no,
                                                          op := Go.Op.move (Go.Operand.tmp 8), type := 3 },
                                                        { dst := Option.some 39, g := Go.Am.QG.no,
                                                          op :=
                                                            Go.Op.call
                                                              { callee := Go.Callee.value (Go.Operand.func 40),
                                                                args :=
                                                                  { toList := [Go.Operand.tmp 37, Go.Operand.tmp 38] },
                                                                argTypes := { toList := [3, 3] } },
                                                          type := 3 },
                                                        { dst := Option.some 40, g := Go.Am.QG.no,
                                                          op :=
                                                            Go.Op.indexAddr 62 (Go.Operand.tmp 10) (Go.Operand.tmp 33),
                                                          type := 0 },
                                                        { dst := Option.none, g := Go.Am.QG.no,
                                                          op := Go.Op.store 3 (Go.Operand.tmp 40) (Go.Operand.tmp 39),
                                                          type := 0 }])
                                                    (Go.Am.QC.plain
                                                      [{ dst := Option.some 41, g := Go.Am.QG.no,
                                                          op := Go.Op.move (Go.Operand.tmp 11), type := 3 },
                                                        { dst := Option.some 42, g := Go.Am.QG.no,
                                                          op := Go.Op.move (Go.Operand.tmp 9), type := 3 },
                                                        { dst := Option.some 43, g := Go.Am.QG.no,
                                                          op := Go.Op.move (Go.Operand.tmp 11), type := 3 },
                                                        { dst := Option.some 44, g := Go.Am.QG.no,
                                                          op := Go.Op.move (Go.Operand.tmp 2), type := 3 },
                                                        { dst := Option.some 45, g := Go.Am.QG.no,
                                                          op :=
                                                            Go.Op.binOp Go.BinOp.mul 3 (Go.Operand.tmp 43)
                                                              (Go.Operand.tmp 44) 3,
                                                          type := 3 },
                                                        { dst := Option.some 46, g := Go.Am.QG.no,
                                                          op :=
                                                            Go.Op.binOp Go.BinOp.add 3 (Go.Operand.tmp 42)
                                                              (Go.Operand.tmp 45) 3,
                                                          type := 3 },
                                                        { dst := Option.some 47, g := Go.Am.QG.no,
                                                          op := Go.Op.move (Go.Operand.tmp 8), type := 3 },
                                                        { dst := Option.some 48, g := Go.Am.QG.no,
                                                          op :=
                                                            Go.Op.call
                                                              { callee := Go.Callee.value (Go.Operand.func 40),
                                                                args :=
                                                                  { toList := [Go.Operand.tmp 46, Go.Operand.tmp 47] },
                                                                argTypes := { toList := [3, 3] } },
                                                          type := 3 },
                                                        { dst := Option.some 49, g := Go.Am.QG.no,
                                                          op :=
                                                            Go.Op.indexAddr 62 (Go.Operand.tmp 10) (Go.Operand.tmp 41),
                                                          type := 0 },
                                                        { dst := Option.none, g := Go.Am.QG.no,
                                                          op := Go.Op.store 3 (Go.Operand.tmp 49) (Go.Operand.tmp 48),
                                                          type := 0 }]))))).seq
                                          (Go.Am.QC.plain
                                            [{ dst := Option.some 23, g := Go.Am.QG.no,
                                                op := Go.Op.move (Go.Operand.tmp 11), type := 3 },
                                              { dst := Option.some 24, g := Go.Am.QG.no,
                                                op :=
                                                  Go.Op.binOp Go.BinOp.add 3 (Go.Operand.tmp 23)
                                                    (Go.Operand.const (Go.Value.int Go.IntKind.i64 (Int.ofNat 1))) 3,
                                                type := 3 },
                                              { dst := Option.some 11, g := Go.Am.QG.no,
                                                op := Go.Op.assign (Go.Operand.tmp 24), type := 3 }]))).loop)).seq
                              ((Go.Am.QC.plain
                                    [{ dst := Option.some 50, g := Go.Am.QG.no,
                                        op := Go.Op.fieldAddr 27 (Go.Operand.tmp 7) 0, type := 0 },
                                      { dst := Option.some 51, g := Go.Am.QG.no,
                                        op := Go.Op.load 24 (Go.Operand.tmp 50), type := 24 },
                                      { dst := Option.some 52, g := Go.Am.QG.no,
                                        op := Go.Op.load 62 (Go.Operand.tmp 10), type := 62 },
                                      { dst := Option.some 53, g := Go.Am.QG.no,
                                        op := Go.Op.buildSlice 24 1 { toList := [(0, Go.Operand.tmp 52)] },
                                        type := 24 },
                                      { dst := Option.some 54, g := Go.Am.QG.no,
                                        op :=
                                          Go.Op.call
                                            { callee := Go.Callee.builtin Go.Builtin.append,
                                              args := { toList := [Go.Operand.tmp 51, Go.Operand.tmp 53] },
                                              argTypes := { toList := [24, 24] } },
                                        type := 24 },
                                      { dst := Option.some 55, g := Go.Am.QG.no,
                                        op := Go.Op.fieldAddr 27 (Go.Operand.tmp 7) 0, type := 0 },
                                      { dst := Option.none, g := Go.Am.QG.no,
                                        op := Go.Op.store 24 (Go.Operand.tmp 55) (Go.Operand.tmp 54), type := 0 }]).seq
                                (Go.Am.QC.drawn
                                  {
                                    toList :=
                                      [{ dst := Option.some 56, op := Go.Op.fieldAddr 27 (Go.Operand.tmp 7) 1,
                                          type := 0, pos := "law.go:49", after := { toList := [] },
                                          guard := Option.none },
                                        { dst := Option.some 57, op := Go.Op.load 25 (Go.Operand.tmp 56), type := 25,
                                          pos := "law.go:49",
                                          after := { toList := [{ on := 0, ground := Go.Ground.data }] },
                                          guard := Option.none },
                                        { dst := Option.some 58, op := Go.Op.move (Go.Operand.tmp 2), type := 3,
                                          pos := "law.go:49", after := { toList := [] }, guard := Option.none },
                                        { dst := Option.some 59, op := Go.Op.move (Go.Operand.tmp 9), type := 3,
                                          pos := "law.go:49", after := { toList := [] }, guard := Option.none },
                                        { dst := Option.some 60, op := Go.Op.convert 3 67 (Go.Operand.tmp 59),
                                          type := 67, pos := "law.go:49",
                                          after := { toList := [{ on := 3, ground := Go.Ground.data }] },
                                          guard := Option.none },
                                        { dst := Option.some 61,
                                          op := Go.Op.binOp Go.BinOp.shr 3 (Go.Operand.tmp 58) (Go.Operand.tmp 60) 67,
                                          type := 3, pos := "law.go:49",
                                          after :=
                                            {
                                              toList :=
                                                [{ on := 2, ground := Go.Ground.data },
                                                  { on := 4, ground := Go.Ground.data }] },
                                          guard := Option.none },
                                        { dst := Option.some 62,
                                          op :=
                                            Go.Op.call
                                              { callee := Go.Callee.value (Go.Operand.func 40),
                                                args :=
                                                  {
                                                    toList :=
                                                      [Go.Operand.tmp 61,
                                                        Go.Operand.const (Go.Value.int Go.IntKind.i64 (Int.ofNat 2))] },
                                                argTypes := { toList := [3, 3] } },
                                          type := 3, pos := "law.go:49",
                                          after := { toList := [{ on := 5, ground := Go.Ground.data }] },
                                          guard := Option.none },
                                        { dst := Option.some 63,
                                          op :=
                                            Go.Op.binOp Go.BinOp.eql 3 (Go.Operand.tmp 62)
                                              (Go.Operand.const (Go.Value.int Go.IntKind.i64 (Int.ofNat 1))) 3,
                                          type := 4, pos := "law.go:49",
                                          after := { toList := [{ on := 6, ground := Go.Ground.data }] },
                                          guard := Option.none },
                                        { dst := Option.some 64,
                                          op := Go.Op.buildSlice 25 1 { toList := [(0, Go.Operand.tmp 63)] },
                                          type := 25, pos := "law.go:49",
                                          after := { toList := [{ on := 7, ground := Go.Ground.data }] },
                                          guard := Option.none },
                                        { dst := Option.some 65,
                                          op :=
                                            Go.Op.call
                                              { callee := Go.Callee.builtin Go.Builtin.append,
                                                args := { toList := [Go.Operand.tmp 57, Go.Operand.tmp 64] },
                                                argTypes := { toList := [25, 25] } },
                                          type := 25, pos := "law.go:49",
                                          after :=
                                            {
                                              toList :=
                                                [{ on := 1, ground := Go.Ground.data },
                                                  { on := 8, ground := Go.Ground.data },
                                                  { on := 6, ground := Go.Ground.chain }] },
                                          guard := Option.none },
                                        { dst := Option.some 66, op := Go.Op.fieldAddr 27 (Go.Operand.tmp 7) 1,
                                          type := 0, pos := "law.go:49",
                                          after :=
                                            {
                                              toList :=
                                                [{ on := 0, ground := Go.Ground.phase },
                                                  { on := 1, ground := Go.Ground.phase },
                                                  { on := 2, ground := Go.Ground.phase },
                                                  { on := 3, ground := Go.Ground.phase },
                                                  { on := 4, ground := Go.Ground.phase },
                                                  { on := 5, ground := Go.Ground.phase },
                                                  { on := 6, ground := Go.Ground.phase },
                                                  { on := 7, ground := Go.Ground.phase },
                                                  { on := 8, ground := Go.Ground.phase },
                                                  { on := 9, ground := Go.Ground.phase }] },
                                          guard := Option.none },
                                        { dst := Option.none,
                                          op := Go.Op.store 25 (Go.Operand.tmp 66) (Go.Operand.tmp 65), type := 0,
                                          pos := "law.go:49",
                                          after :=
                                            {
                                              toList :=
                                                [{ on := 10, ground := Go.Ground.data },
                                                  { on := 9, ground := Go.Ground.data },
                                                  { on := 9, ground := Go.Ground.chain },
                                                  { on := 0, ground := Go.Ground.phase },
                                                  { on := 1, ground := Go.Ground.phase },
                                                  { on := 2, ground := Go.Ground.phase },
                                                  { on := 3, ground := Go.Ground.phase },
                                                  { on := 4, ground := Go.Ground.phase },
                                                  { on := 5, ground := Go.Ground.phase },
                                                  { on := 6, ground := Go.Ground.phase },
                                                  { on := 7, ground := Go.Ground.phase },
                                                  { on := 8, ground := Go.Ground.phase },
                                                  { on := 9, ground := Go.Ground.phase }] },
                                          guard := Option.none }] }
                                  [0, 1, 0, 0, 8, 28, 60, 124, 252, 511, 1023, 2047] [] Option.none))))).seq
                      (Go.Am.QC.plain
                        [{ dst := Option.some 19, g := Go.Am.QG.no, op := Go.Op.move (Go.Operand.tmp 9), type := 3 },
                          { dst := Option.some 20, g := Go.Am.QG.no,
                            op :=
                              Go.Op.binOp Go.BinOp.add 3 (Go.Operand.tmp 19)
                                (Go.Operand.const (Go.Value.int Go.IntKind.i64 (Int.ofNat 1))) 3,
                            type := 3 },
                          { dst := Option.some 9, g := Go.Am.QG.no, op := Go.Op.assign (Go.Operand.tmp 20),
                            type := 3 }]))).loop)).seq
          ((Go.Am.QC.plain
                [{ dst := Option.some 67, g := Go.Am.QG.no, op := Go.Op.load 27 (Go.Operand.tmp 7), type := 27 },
                  { dst := Option.none, g := Go.Am.QG.no, op := Go.Op.store 27 (Go.Operand.tmp 6) (Go.Operand.tmp 67),
                    type := 0 }]).seq
            Go.Am.QC.ret)))))
theorem q16_ok : bodyComp Tryz.prog 16 = some q16 := by kernel_rfl
noncomputable def q20 : QC :=
  ((Go.Am.QC.plain
        [{ dst := Option.some 1, g := Go.Am.QG.no, op := Go.Op.box 27 (Go.Operand.tmp 0), type := 0 },
          { dst := Option.some 2, g := Go.Am.QG.no, op := Go.Op.assign (Go.Operand.const (Go.Value.bool Bool.false)),
            type := 4 }]).seq
    (((Go.Am.QC.plain
              [{ dst := Option.some 5, g := Go.Am.QG.no, op := Go.Op.load 27 (Go.Operand.tmp 1), type := 27 },
                { dst := Option.some 6, g := Go.Am.QG.no,
                  op :=
                    Go.Op.call
                      { callee := Go.Callee.value (Go.Operand.func 41), args := { toList := [Go.Operand.tmp 5] },
                        argTypes := { toList := [27] } },
                  type := 4 },
                { dst := Option.some 7, g := Go.Am.QG.no, op := Go.Op.unOp Go.UnOp.not 4 (Go.Operand.tmp 6),
                  type := 4 }]).seq
          (Go.Am.QC.cond (Go.Operand.tmp 7)
            ((Go.Am.QC.plain
                  [{ dst := Option.some 2, g := Go.Am.QG.no,
                      op := Go.Op.assign (Go.Operand.const (Go.Value.bool Bool.false)), type := 4 }]).seq
              Go.Am.QC.ret)
            Go.Am.QC.skip)).seq
      (((Go.Am.QC.plain
                [{ dst := Option.some 8, g := Go.Am.QG.no, op := Go.Op.fieldAddr 27 (Go.Operand.tmp 1) 0, type := 0 },
                  { dst := Option.some 9, g := Go.Am.QG.no, op := Go.Op.load 24 (Go.Operand.tmp 8), type := 24 },
                  { dst := Option.some 10, g := Go.Am.QG.no,
                    op :=
                      Go.Op.call
                        { callee := Go.Callee.builtin Go.Builtin.len, args := { toList := [Go.Operand.tmp 9] },
                          argTypes := { toList := [24] } },
                    type := 3 },
                  { dst := Option.some 11, g := Go.Am.QG.no,
                    op := Go.Op.move (Go.Operand.const (Go.Value.int Go.IntKind.i64 (Int.ofNat 0))), type := 3 }]).seq
            (Go.Am.QC.block 0
              ((Go.Am.QC.plain
                      [{ dst := Option.some 12, g := Go.Am.QG.no,
                          op := Go.Op.binOp Go.BinOp.lss 3 (Go.Operand.tmp 11) (Go.Operand.tmp 10) 3, type := 0 }]).seq
                  ((Go.Am.QC.cond (Go.Operand.tmp 12) Go.Am.QC.skip (Go.Am.QC.exit 0)).seq
                    ((Go.Am.QC.block 1
                          ((Go.Am.QC.plain
                                [{ dst := Option.some 13, g := Go.Am.QG.no,
                                    op := Go.Op.indexAddr 24 (Go.Operand.tmp 9) (Go.Operand.tmp 11), type := 0 },
                                  { dst := Option.some 14, g := Go.Am.QG.no, op := Go.Op.load 62 (Go.Operand.tmp 13),
                                    type := 62 },
                                  { dst := Option.some 4, g := Go.Am.QG.no, op := Go.Op.alloc 62, type := 0 },
                                  { dst := Option.none, g := Go.Am.QG.no,
                                    op := Go.Op.store 62 (Go.Operand.tmp 4) (Go.Operand.tmp 14), type := 0 }]).seq
                            ((Go.Am.QC.drawn
                                  {
                                    toList :=
                                      [{ dst := Option.some 15, op := Go.Op.load 27 (Go.Operand.tmp 1), type := 27,
                                          pos := "mini.go:64", after := { toList := [] }, guard := Option.none },
                                        { dst := Option.some 16, op := Go.Op.load 62 (Go.Operand.tmp 4), type := 62,
                                          pos := "mini.go:64", after := { toList := [] }, guard := Option.none },
                                        { dst := Option.some 17,
                                          op :=
                                            Go.Op.call
                                              { callee := Go.Callee.value (Go.Operand.func 47),
                                                args := { toList := [Go.Operand.tmp 15, Go.Operand.tmp 16] },
                                                argTypes := { toList := [27, 62] } },
                                          type := 62, pos := "mini.go:64",
                                          after :=
                                            {
                                              toList :=
                                                [{ on := 0, ground := Go.Ground.data },
                                                  { on := 1, ground := Go.Ground.data }] },
                                          guard := Option.none },
                                        { dst := Option.some 18, op := Go.Op.load 62 (Go.Operand.tmp 4), type := 62,
                                          pos := "mini.go:64", after := { toList := [] }, guard := Option.none },
                                        { dst := Option.some 19,
                                          op := Go.Op.binOp Go.BinOp.neq 62 (Go.Operand.tmp 17) (Go.Operand.tmp 18) 62,
                                          type := 4, pos := "mini.go:64",
                                          after :=
                                            {
                                              toList :=
                                                [{ on := 2, ground := Go.Ground.data },
                                                  { on := 3, ground := Go.Ground.data }] },
                                          guard := Option.none }] }
                                  [0, 0, 3, 0, 15] [3] Option.none).seq
                              (Go.Am.QC.cond (Go.Operand.tmp 19)
                                ((Go.Am.QC.plain
                                      [{ dst := Option.some 2, g := Go.Am.QG.no,
                                          op := Go.Op.assign (Go.Operand.const (Go.Value.bool Bool.false)),
                                          type := 4 }]).seq
                                  Go.Am.QC.ret)
                                Go.Am.QC.skip)))).seq
                      (Go.Am.QC.plain
                        [{ dst := Option.some 20, g := Go.Am.QG.no,
                            op :=
                              Go.Op.binOp Go.BinOp.add 3 (Go.Operand.tmp 11)
                                (Go.Operand.const (Go.Value.int Go.IntKind.i64 (Int.ofNat 1))) 3,
                            type := 3 },
                          { dst := Option.some 11, g := Go.Am.QG.no, op := Go.Op.move (Go.Operand.tmp 20),
                            type := 3 }])))).loop)).seq
        ((Go.Am.QC.plain
              [{ dst := Option.some 2, g := Go.Am.QG.no,
                  op := Go.Op.assign (Go.Operand.const (Go.Value.bool Bool.true)), type := 4 }]).seq
          Go.Am.QC.ret))))
theorem q20_ok : bodyComp Tryz.prog 20 = some q20 := by kernel_rfl
noncomputable def q24 : QC :=
  ((Go.Am.QC.plain
        [{ dst := Option.some 6, g := Go.Am.QG.no,
            op := Go.Op.assign (Go.Operand.const (Go.Value.slice Option.none 0 0)), type := 22 }]).seq
    ((Go.Am.QC.plain
          [{ dst := Option.some 7, g := Go.Am.QG.no,
              op := Go.Op.assign (Go.Operand.const (Go.Value.slice Option.none 0 0)), type := 22 }]).seq
      (((Go.Am.QC.plain
                [{ dst := Option.some 8, g := Go.Am.QG.no,
                    op := Go.Op.assign (Go.Operand.const (Go.Value.int Go.IntKind.i64 (Int.ofNat 0))), type := 3 }]).seq
            (Go.Am.QC.block 0
              (((Go.Am.QC.plain
                          [{ dst := Option.some 9, g := Go.Am.QG.no, op := Go.Op.move (Go.Operand.tmp 8), type := 3 },
                            { dst := Option.some 10, g := Go.Am.QG.no, op := Go.Op.move (Go.Operand.tmp 0),
                              type := 22 },
                            { dst := Option.some 11, g := Go.Am.QG.no,
                              op :=
                                Go.Op.call
                                  { callee := Go.Callee.builtin Go.Builtin.len,
                                    args := { toList := [Go.Operand.tmp 10] }, argTypes := { toList := [22] } },
                              type := 3 },
                            { dst := Option.some 12, g := Go.Am.QG.no,
                              op := Go.Op.binOp Go.BinOp.lss 3 (Go.Operand.tmp 9) (Go.Operand.tmp 11) 3, type := 4 },
                            { dst := Option.some 13, g := Go.Am.QG.no, op := Go.Op.move (Go.Operand.tmp 12),
                              type := 4 },
                            { dst := Option.some 14, g := Go.Am.QG.at 13 Bool.true, op := Go.Op.move (Go.Operand.tmp 8),
                              type := 3 },
                            { dst := Option.some 15, g := Go.Am.QG.at 13 Bool.true, op := Go.Op.move (Go.Operand.tmp 1),
                              type := 3 },
                            { dst := Option.some 16, g := Go.Am.QG.at 13 Bool.true,
                              op := Go.Op.binOp Go.BinOp.lss 3 (Go.Operand.tmp 14) (Go.Operand.tmp 15) 3, type := 4 },
                            { dst := Option.some 17, g := Go.Am.QG.no,
                              op :=
                                Go.Op.pick (Go.Operand.tmp 13) (Go.Operand.tmp 16)
                                  (Go.Operand.const (Go.Value.bool Bool.false)),
                              type := 4 }]).seq
                      (Go.Am.QC.cond (Go.Operand.tmp 17) Go.Am.QC.skip (Go.Am.QC.exit 0))).seq
                  ((Go.Am.QC.block 1
                        (Go.Am.QC.drawn
                          {
                            toList :=
                              [{ dst := Option.some 20, op := Go.Op.move (Go.Operand.tmp 7), type := 22,
                                  pos := "law.go:32", after := { toList := [] }, guard := Option.none },
                                { dst := Option.some 21, op := Go.Op.move (Go.Operand.tmp 0), type := 22,
                                  pos := "law.go:32", after := { toList := [] }, guard := Option.none },
                                { dst := Option.some 22, op := Go.Op.move (Go.Operand.tmp 8), type := 3,
                                  pos := "law.go:32", after := { toList := [] }, guard := Option.none },
                                { dst := Option.some 23,
                                  op := Go.Op.indexAddr 22 (Go.Operand.tmp 21) (Go.Operand.tmp 22), type := 0,
                                  pos := "law.go:32",
                                  after :=
                                    {
                                      toList :=
                                        [{ on := 1, ground := Go.Ground.data },
                                          { on := 2, ground := Go.Ground.data }] },
                                  guard := Option.none },
                                { dst := Option.some 24, op := Go.Op.load 3 (Go.Operand.tmp 23), type := 3,
                                  pos := "law.go:32", after := { toList := [{ on := 3, ground := Go.Ground.data }] },
                                  guard := Option.none },
                                { dst := Option.some 25, op := Go.Op.move (Go.Operand.tmp 2), type := 3,
                                  pos := "law.go:32", after := { toList := [] }, guard := Option.none },
                                { dst := Option.some 26,
                                  op :=
                                    Go.Op.call
                                      { callee := Go.Callee.value (Go.Operand.func 50),
                                        args :=
                                          {
                                            toList :=
                                              [Go.Operand.tmp 25,
                                                Go.Operand.const (Go.Value.int Go.IntKind.i64 (Int.ofNat 5))] },
                                        argTypes := { toList := [3, 3] } },
                                  type := 3, pos := "law.go:32",
                                  after := { toList := [{ on := 5, ground := Go.Ground.data }] },
                                  guard := Option.none },
                                { dst := Option.some 27,
                                  op :=
                                    Go.Op.binOp Go.BinOp.add 3
                                      (Go.Operand.const (Go.Value.int Go.IntKind.i64 (Int.ofNat 1))) (Go.Operand.tmp 26)
                                      3,
                                  type := 3, pos := "law.go:32",
                                  after := { toList := [{ on := 6, ground := Go.Ground.data }] },
                                  guard := Option.none },
                                { dst := Option.some 28,
                                  op :=
                                    Go.Op.call
                                      { callee := Go.Callee.value (Go.Operand.func 50),
                                        args := { toList := [Go.Operand.tmp 24, Go.Operand.tmp 27] },
                                        argTypes := { toList := [3, 3] } },
                                  type := 3, pos := "law.go:32",
                                  after :=
                                    {
                                      toList :=
                                        [{ on := 4, ground := Go.Ground.data }, { on := 7, ground := Go.Ground.data },
                                          { on := 6, ground := Go.Ground.chain }] },
                                  guard := Option.none },
                                { dst := Option.some 29,
                                  op := Go.Op.buildSlice 22 1 { toList := [(0, Go.Operand.tmp 28)] }, type := 22,
                                  pos := "law.go:32", after := { toList := [{ on := 8, ground := Go.Ground.data }] },
                                  guard := Option.none },
                                { dst := Option.some 30,
                                  op :=
                                    Go.Op.call
                                      { callee := Go.Callee.builtin Go.Builtin.append,
                                        args := { toList := [Go.Operand.tmp 20, Go.Operand.tmp 29] },
                                        argTypes := { toList := [22, 22] } },
                                  type := 22, pos := "law.go:32",
                                  after :=
                                    {
                                      toList :=
                                        [{ on := 0, ground := Go.Ground.data }, { on := 9, ground := Go.Ground.data },
                                          { on := 8, ground := Go.Ground.chain }] },
                                  guard := Option.none },
                                { dst := Option.some 7, op := Go.Op.assign (Go.Operand.tmp 30), type := 22,
                                  pos := "law.go:32",
                                  after :=
                                    {
                                      toList :=
                                        [{ on := 10, ground := Go.Ground.data },
                                          { on := 10, ground := Go.Ground.chain },
                                          { on := 0, ground := Go.Ground.phase },
                                          { on := 1, ground := Go.Ground.phase },
                                          { on := 2, ground := Go.Ground.phase },
                                          { on := 3, ground := Go.Ground.phase },
                                          { on := 4, ground := Go.Ground.phase },
                                          { on := 5, ground := Go.Ground.phase },
                                          { on := 6, ground := Go.Ground.phase },
                                          { on := 7, ground := Go.Ground.phase },
                                          { on := 8, ground := Go.Ground.phase },
                                          { on := 9, ground := Go.Ground.phase },
                                          { on := 10, ground := Go.Ground.phase }] },
                                  guard := Option.none }] }
                          [0, 0, 0, 6, 14, 0, 32, 96, 254, 510, 1023, 2047] [4] Option.none)).seq
                    (Go.Am.QC.plain
                      [{ dst := Option.some 18, g := Go.Am.QG.no, op := Go.Op.move (Go.Operand.tmp 8), type := 3 },
                        { dst := Option.some 19, g := Go.Am.QG.no,
                          op :=
                            Go.Op.binOp Go.BinOp.add 3 (Go.Operand.tmp 18)
                              (Go.Operand.const (Go.Value.int Go.IntKind.i64 (Int.ofNat 1))) 3,
                          type := 3 },
                        { dst := Option.some 8, g := Go.Am.QG.no, op := Go.Op.assign (Go.Operand.tmp 19),
                          type := 3 }]))).loop)).seq
        ((Go.Am.QC.plain
              [{ dst := Option.some 31, g := Go.Am.QG.no, op := Go.Op.move (Go.Operand.tmp 7), type := 22 },
                { dst := Option.some 6, g := Go.Am.QG.no, op := Go.Op.assign (Go.Operand.tmp 31), type := 22 }]).seq
          Go.Am.QC.ret))))
theorem q24_ok : bodyComp Tryz.prog 24 = some q24 := by kernel_rfl
noncomputable def q37 : QC :=
  ((Go.Am.QC.plain
        [{ dst := Option.some 3, g := Go.Am.QG.no, op := Go.Op.box 27 (Go.Operand.tmp 0), type := 0 },
          { dst := Option.some 6, g := Go.Am.QG.no,
            op := Go.Op.assign (Go.Operand.const (Go.Value.int Go.IntKind.i64 (Int.ofNat 0))), type := 3 }]).seq
    (((Go.Am.QC.plain
              [{ dst := Option.some 8, g := Go.Am.QG.no, op := Go.Op.move (Go.Operand.tmp 1), type := 3 },
                { dst := Option.some 9, g := Go.Am.QG.no,
                  op :=
                    Go.Op.binOp Go.BinOp.lss 3 (Go.Operand.tmp 8)
                      (Go.Operand.const (Go.Value.int Go.IntKind.i64 (Int.ofNat 0))) 3,
                  type := 4 },
                { dst := Option.some 10, g := Go.Am.QG.no, op := Go.Op.move (Go.Operand.tmp 9), type := 4 },
                { dst := Option.some 11, g := Go.Am.QG.at 10 Bool.false, op := Go.Op.move (Go.Operand.tmp 1),
                  type := 3 },
                { dst := Option.some 12, g := Go.Am.QG.at 10 Bool.false, op := Go.Op.fieldAddr 27 (Go.Operand.tmp 3) 0,
                  type := 0 },
                { dst := Option.some 13, g := Go.Am.QG.at 10 Bool.false, op := Go.Op.load 24 (Go.Operand.tmp 12),
                  type := 24 },
                { dst := Option.some 14, g := Go.Am.QG.at 10 Bool.false,
                  op :=
                    Go.Op.call
                      { callee := Go.Callee.builtin Go.Builtin.len, args := { toList := [Go.Operand.tmp 13] },
                        argTypes := { toList := [24] } },
                  type := 3 },
                { dst := Option.some 15, g := Go.Am.QG.at 10 Bool.false,
                  op := Go.Op.binOp Go.BinOp.geq 3 (Go.Operand.tmp 11) (Go.Operand.tmp 14) 3, type := 4 },
                { dst := Option.some 16, g := Go.Am.QG.no,
                  op := Go.Op.pick (Go.Operand.tmp 10) (Go.Operand.const (Go.Value.bool Bool.true)) (Go.Operand.tmp 15),
                  type := 4 }]).seq
          (Go.Am.QC.cond (Go.Operand.tmp 16)
            ((Go.Am.QC.plain
                  [{ dst := Option.some 6, g := Go.Am.QG.no,
                      op := Go.Op.assign (Go.Operand.const (Go.Value.int Go.IntKind.i64 (Int.negSucc 0))),
                      type := 3 }]).seq
              Go.Am.QC.ret)
            Go.Am.QC.skip)).seq
      (((Go.Am.QC.plain
                [{ dst := Option.some 7, g := Go.Am.QG.no,
                    op := Go.Op.assign (Go.Operand.const (Go.Value.int Go.IntKind.i64 (Int.ofNat 0))), type := 3 }]).seq
            (Go.Am.QC.block 0
              (((Go.Am.QC.plain
                          [{ dst := Option.some 17, g := Go.Am.QG.no, op := Go.Op.move (Go.Operand.tmp 7), type := 3 },
                            { dst := Option.some 18, g := Go.Am.QG.no, op := Go.Op.move (Go.Operand.tmp 2),
                              type := 22 },
                            { dst := Option.some 19, g := Go.Am.QG.no,
                              op :=
                                Go.Op.call
                                  { callee := Go.Callee.builtin Go.Builtin.len,
                                    args := { toList := [Go.Operand.tmp 18] }, argTypes := { toList := [22] } },
                              type := 3 },
                            { dst := Option.some 20, g := Go.Am.QG.no,
                              op := Go.Op.binOp Go.BinOp.lss 3 (Go.Operand.tmp 17) (Go.Operand.tmp 19) 3,
                              type := 4 }]).seq
                      (Go.Am.QC.cond (Go.Operand.tmp 20) Go.Am.QC.skip (Go.Am.QC.exit 0))).seq
                  ((Go.Am.QC.block 1
                        (((Go.Am.QC.plain
                                  [{ dst := Option.some 23, g := Go.Am.QG.no, op := Go.Op.move (Go.Operand.tmp 2),
                                      type := 22 },
                                    { dst := Option.some 24, g := Go.Am.QG.no, op := Go.Op.move (Go.Operand.tmp 7),
                                      type := 3 },
                                    { dst := Option.some 25, g := Go.Am.QG.no,
                                      op := Go.Op.indexAddr 22 (Go.Operand.tmp 23) (Go.Operand.tmp 24), type := 0 },
                                    { dst := Option.some 26, g := Go.Am.QG.no, op := Go.Op.load 3 (Go.Operand.tmp 25),
                                      type := 3 },
                                    { dst := Option.some 27, g := Go.Am.QG.no,
                                      op :=
                                        Go.Op.binOp Go.BinOp.lss 3 (Go.Operand.tmp 26)
                                          (Go.Operand.const (Go.Value.int Go.IntKind.i64 (Int.ofNat 0))) 3,
                                      type := 4 },
                                    { dst := Option.some 28, g := Go.Am.QG.no, op := Go.Op.move (Go.Operand.tmp 27),
                                      type := 4 },
                                    { dst := Option.some 29, g := Go.Am.QG.at 28 Bool.false,
                                      op := Go.Op.move (Go.Operand.tmp 2), type := 22 },
                                    { dst := Option.some 30, g := Go.Am.QG.at 28 Bool.false,
                                      op := Go.Op.move (Go.Operand.tmp 7), type := 3 },
                                    { dst := Option.some 31, g := Go.Am.QG.at 28 Bool.false,
                                      op := Go.Op.indexAddr 22 (Go.Operand.tmp 29) (Go.Operand.tmp 30), type := 0 },
                                    { dst := Option.some 32, g := Go.Am.QG.at 28 Bool.false,
                                      op := Go.Op.load 3 (Go.Operand.tmp 31), type := 3 },
                                    { dst := Option.some 33, g := Go.Am.QG.at 28 Bool.false,
                                      op :=
                                        Go.Op.binOp Go.BinOp.geq 3 (Go.Operand.tmp 32)
                                          (Go.Operand.const (Go.Value.int Go.IntKind.i64 (Int.ofNat 5))) 3,
                                      type := 4 },
                                    { dst := Option.some 34, g := Go.Am.QG.no,
                                      op :=
                                        Go.Op.pick (Go.Operand.tmp 28) (Go.Operand.const (Go.Value.bool Bool.true))
                                          (Go.Operand.tmp 33),
                                      type := 4 }]).seq
                              (Go.Am.QC.cond (Go.Operand.tmp 34)
                                ((Go.Am.QC.plain
                                      [{ dst := Option.some 6, g := Go.Am.QG.no,
                                          op :=
                                            Go.Op.assign
                                              (Go.Operand.const (Go.Value.int Go.IntKind.i64 (Int.negSucc 0))),
                                          type := 3 }]).seq
                                  Go.Am.QC.ret)
                                Go.Am.QC.skip)).seq
                          (Go.Am.QC.plain
                            [{ dst := Option.some 35, g := Go.Am.QG.no, op := Go.Op.fieldAddr 27 (Go.Operand.tmp 3) 0,
                                type := 0 },
                              { dst := Option.some 36, g := Go.Am.QG.no, op := Go.Op.load 24 (Go.Operand.tmp 35),
                                type := 24 },
                              { dst := Option.some 37, g := Go.Am.QG.no, op := Go.Op.move (Go.Operand.tmp 1),
                                type := 3 },
                              { dst := Option.some 38, g := Go.Am.QG.no, op := Go.Op.move (Go.Operand.tmp 2),
                                type := 22 },
                              { dst := Option.some 39, g := Go.Am.QG.no, op := Go.Op.move (Go.Operand.tmp 7),
                                type := 3 },
                              { dst := Option.some 40, g := Go.Am.QG.no,
                                op := Go.Op.indexAddr 22 (Go.Operand.tmp 38) (Go.Operand.tmp 39), type := 0 },
                              { dst := Option.some 41, g := Go.Am.QG.no, op := Go.Op.load 3 (Go.Operand.tmp 40),
                                type := 3 },
                              { dst := Option.some 42, g := Go.Am.QG.no,
                                op := Go.Op.indexAddr 24 (Go.Operand.tmp 36) (Go.Operand.tmp 37), type := 0 },
                              { dst := Option.some 43, g := Go.Am.QG.no,
                                op := Go.Op.indexAddr 62 (Go.Operand.tmp 42) (Go.Operand.tmp 41), type := 0 },
                              { dst := Option.some 44, g := Go.Am.QG.no, op := Go.Op.load 3 (Go.Operand.tmp 43),
                                type := 3 },
                              { dst := Option.some 1, g := Go.Am.QG.no, op := Go.Op.assign (Go.Operand.tmp 44),
                                type := 3 }]))).seq
                    (Go.Am.QC.plain
                      [{ dst := Option.some 21, g := Go.Am.QG.no, op := Go.Op.move (Go.Operand.tmp 7), type := 3 },
                        { dst := Option.some 22, g := Go.Am.QG.no,
                          op :=
                            Go.Op.binOp Go.BinOp.add 3 (Go.Operand.tmp 21)
                              (Go.Operand.const (Go.Value.int Go.IntKind.i64 (Int.ofNat 1))) 3,
                          type := 3 },
                        { dst := Option.some 7, g := Go.Am.QG.no, op := Go.Op.assign (Go.Operand.tmp 22),
                          type := 3 }]))).loop)).seq
        ((Go.Am.QC.plain
              [{ dst := Option.some 45, g := Go.Am.QG.no, op := Go.Op.move (Go.Operand.tmp 1), type := 3 },
                { dst := Option.some 6, g := Go.Am.QG.no, op := Go.Op.assign (Go.Operand.tmp 45), type := 3 }]).seq
          Go.Am.QC.ret))))
theorem q37_ok : bodyComp Tryz.prog 37 = some q37 := by kernel_rfl
noncomputable def q41 : QC :=
  ((Go.Am.QC.plain
        [{ dst := Option.some 1, g := Go.Am.QG.no, op := Go.Op.box 27 (Go.Operand.tmp 0), type := 0 },
          { dst := Option.some 2, g := Go.Am.QG.no, op := Go.Op.assign (Go.Operand.const (Go.Value.bool Bool.false)),
            type := 4 }]).seq
    ((Go.Am.QC.plain
          [{ dst := Option.some 8, g := Go.Am.QG.no, op := Go.Op.fieldAddr 27 (Go.Operand.tmp 1) 0, type := 0 },
            { dst := Option.some 9, g := Go.Am.QG.no, op := Go.Op.load 24 (Go.Operand.tmp 8), type := 24 },
            { dst := Option.some 10, g := Go.Am.QG.no,
              op :=
                Go.Op.call
                  { callee := Go.Callee.builtin Go.Builtin.len, args := { toList := [Go.Operand.tmp 9] },
                    argTypes := { toList := [24] } },
              type := 3 },
            { dst := Option.some 3, g := Go.Am.QG.no, op := Go.Op.assign (Go.Operand.tmp 10), type := 3 }]).seq
      (((Go.Am.QC.plain
                [{ dst := Option.some 11, g := Go.Am.QG.no, op := Go.Op.move (Go.Operand.tmp 3), type := 3 },
                  { dst := Option.some 12, g := Go.Am.QG.no,
                    op :=
                      Go.Op.binOp Go.BinOp.lss 3 (Go.Operand.tmp 11)
                        (Go.Operand.const (Go.Value.int Go.IntKind.i64 (Int.ofNat 1))) 3,
                    type := 4 },
                  { dst := Option.some 13, g := Go.Am.QG.no, op := Go.Op.move (Go.Operand.tmp 12), type := 4 },
                  { dst := Option.some 14, g := Go.Am.QG.at 13 Bool.false, op := Go.Op.move (Go.Operand.tmp 3),
                    type := 3 },
                  { dst := Option.some 15, g := Go.Am.QG.at 13 Bool.false,
                    op :=
                      Go.Op.binOp Go.BinOp.gtr 3 (Go.Operand.tmp 14)
                        (Go.Operand.const (Go.Value.int Go.IntKind.i64 (Int.ofNat 2000))) 3,
                    type := 4 },
                  { dst := Option.some 16, g := Go.Am.QG.no,
                    op :=
                      Go.Op.pick (Go.Operand.tmp 13) (Go.Operand.const (Go.Value.bool Bool.true)) (Go.Operand.tmp 15),
                    type := 4 },
                  { dst := Option.some 17, g := Go.Am.QG.no, op := Go.Op.move (Go.Operand.tmp 16), type := 4 },
                  { dst := Option.some 18, g := Go.Am.QG.at 17 Bool.false,
                    op := Go.Op.fieldAddr 27 (Go.Operand.tmp 1) 1, type := 0 },
                  { dst := Option.some 19, g := Go.Am.QG.at 17 Bool.false, op := Go.Op.load 25 (Go.Operand.tmp 18),
                    type := 25 },
                  { dst := Option.some 20, g := Go.Am.QG.at 17 Bool.false,
                    op :=
                      Go.Op.call
                        { callee := Go.Callee.builtin Go.Builtin.len, args := { toList := [Go.Operand.tmp 19] },
                          argTypes := { toList := [25] } },
                    type := 3 },
                  { dst := Option.some 21, g := Go.Am.QG.at 17 Bool.false, op := Go.Op.move (Go.Operand.tmp 3),
                    type := 3 },
                  { dst := Option.some 22, g := Go.Am.QG.at 17 Bool.false,
                    op := Go.Op.binOp Go.BinOp.neq 3 (Go.Operand.tmp 20) (Go.Operand.tmp 21) 3, type := 4 },
                  { dst := Option.some 23, g := Go.Am.QG.no,
                    op :=
                      Go.Op.pick (Go.Operand.tmp 17) (Go.Operand.const (Go.Value.bool Bool.true)) (Go.Operand.tmp 22),
                    type := 4 }]).seq
            (Go.Am.QC.cond (Go.Operand.tmp 23)
              ((Go.Am.QC.plain
                    [{ dst := Option.some 2, g := Go.Am.QG.no,
                        op := Go.Op.assign (Go.Operand.const (Go.Value.bool Bool.false)), type := 4 }]).seq
                Go.Am.QC.ret)
              Go.Am.QC.skip)).seq
        (((Go.Am.QC.plain
                  [{ dst := Option.some 24, g := Go.Am.QG.no, op := Go.Op.fieldAddr 27 (Go.Operand.tmp 1) 0,
                      type := 0 },
                    { dst := Option.some 25, g := Go.Am.QG.no, op := Go.Op.load 24 (Go.Operand.tmp 24), type := 24 },
                    { dst := Option.some 26, g := Go.Am.QG.no,
                      op :=
                        Go.Op.call
                          { callee := Go.Callee.builtin Go.Builtin.len, args := { toList := [Go.Operand.tmp 25] },
                            argTypes := { toList := [24] } },
                      type := 3 },
                    { dst := Option.some 27, g := Go.Am.QG.no,
                      op := Go.Op.move (Go.Operand.const (Go.Value.int Go.IntKind.i64 (Int.ofNat 0))), type := 3 }]).seq
              (Go.Am.QC.block 0
                ((Go.Am.QC.plain
                        [{ dst := Option.some 28, g := Go.Am.QG.no,
                            op := Go.Op.binOp Go.BinOp.lss 3 (Go.Operand.tmp 27) (Go.Operand.tmp 26) 3,
                            type := 0 }]).seq
                    ((Go.Am.QC.cond (Go.Operand.tmp 28) Go.Am.QC.skip (Go.Am.QC.exit 0)).seq
                      ((Go.Am.QC.block 1
                            ((Go.Am.QC.plain
                                  [{ dst := Option.some 29, g := Go.Am.QG.no,
                                      op := Go.Op.indexAddr 24 (Go.Operand.tmp 25) (Go.Operand.tmp 27), type := 0 },
                                    { dst := Option.some 30, g := Go.Am.QG.no, op := Go.Op.load 62 (Go.Operand.tmp 29),
                                      type := 62 },
                                    { dst := Option.some 5, g := Go.Am.QG.no, op := Go.Op.alloc 62, type := 0 },
                                    { dst := Option.none, g := Go.Am.QG.no,
                                      op := Go.Op.store 62 (Go.Operand.tmp 5) (Go.Operand.tmp 30), type := 0 }]).seq
                              ((Go.Am.QC.plain
                                    [{ dst := Option.some 31, g := Go.Am.QG.no, op := Go.Op.load 62 (Go.Operand.tmp 5),
                                        type := 62 },
                                      { dst := Option.some 32, g := Go.Am.QG.no,
                                        op := Go.Op.move (Go.Operand.const (Go.Value.int Go.IntKind.i64 (Int.ofNat 0))),
                                        type := 3 }]).seq
                                (Go.Am.QC.block 2
                                  ((Go.Am.QC.plain
                                          [{ dst := Option.some 33, g := Go.Am.QG.no,
                                              op :=
                                                Go.Op.binOp Go.BinOp.lss 3 (Go.Operand.tmp 32)
                                                  (Go.Operand.const (Go.Value.int Go.IntKind.i64 (Int.ofNat 5))) 3,
                                              type := 0 }]).seq
                                      ((Go.Am.QC.cond (Go.Operand.tmp 33) Go.Am.QC.skip (Go.Am.QC.exit 2)).seq
                                        ((Go.Am.QC.block 3
                                              ((Go.Am.QC.plain
                                                    [{ dst := Option.some 34, g := Go.Am.QG.no,
                                                        op := Go.Op.index 62 (Go.Operand.tmp 31) (Go.Operand.tmp 32),
                                                        type := 3 },
                                                      { dst := Option.some 7, g := Go.Am.QG.no,
                                                        op := Go.Op.assign (Go.Operand.tmp 34), type := 3 }]).seq
                                                ((Go.Am.QC.plain
                                                      [{ dst := Option.some 35, g := Go.Am.QG.no,
                                                          op := Go.Op.move (Go.Operand.tmp 7), type := 3 },
                                                        { dst := Option.some 36, g := Go.Am.QG.no,
                                                          op := Go.Op.move (Go.Operand.tmp 3), type := 3 },
                                                        { dst := Option.some 37, g := Go.Am.QG.no,
                                                          op :=
                                                            Go.Op.call
                                                              { callee := Go.Callee.value (Go.Operand.func 68),
                                                                args :=
                                                                  { toList := [Go.Operand.tmp 35, Go.Operand.tmp 36] },
                                                                argTypes := { toList := [3, 3] } },
                                                          type := 4 }]).seq
                                                  (Go.Am.QC.cond (Go.Operand.tmp 37)
                                                    ((Go.Am.QC.plain
                                                          [{ dst := Option.some 2, g := Go.Am.QG.no,
                                                              op :=
                                                                Go.Op.assign
                                                                  (Go.Operand.const (Go.Value.bool Bool.false)),
                                                              type := 4 }]).seq
                                                      Go.Am.QC.ret)
                                                    Go.Am.QC.skip)))).seq
                                          (Go.Am.QC.plain
                                            [{ dst := Option.some 38, g := Go.Am.QG.no,
                                                op :=
                                                  Go.Op.binOp Go.BinOp.add 3 (Go.Operand.tmp 32)
                                                    (Go.Operand.const (Go.Value.int Go.IntKind.i64 (Int.ofNat 1))) 3,
                                                type := 3 },
                                              { dst := Option.some 32, g := Go.Am.QG.no,
                                                op := Go.Op.move (Go.Operand.tmp 38), type := 3 }])))).loop)))).seq
                        (Go.Am.QC.plain
                          [{ dst := Option.some 39, g := Go.Am.QG.no,
                              op :=
                                Go.Op.binOp Go.BinOp.add 3 (Go.Operand.tmp 27)
                                  (Go.Operand.const (Go.Value.int Go.IntKind.i64 (Int.ofNat 1))) 3,
                              type := 3 },
                            { dst := Option.some 27, g := Go.Am.QG.no, op := Go.Op.move (Go.Operand.tmp 39),
                              type := 3 }])))).loop)).seq
          ((Go.Am.QC.plain
                [{ dst := Option.some 2, g := Go.Am.QG.no,
                    op := Go.Op.assign (Go.Operand.const (Go.Value.bool Bool.true)), type := 4 }]).seq
            Go.Am.QC.ret)))))
theorem q41_ok : bodyComp Tryz.prog 41 = some q41 := by kernel_rfl
noncomputable def q47 : QC :=
  ((Go.Am.QC.plain
        [{ dst := Option.some 2, g := Go.Am.QG.no, op := Go.Op.box 27 (Go.Operand.tmp 0), type := 0 },
          { dst := Option.some 3, g := Go.Am.QG.no, op := Go.Op.box 62 (Go.Operand.tmp 1), type := 0 },
          { dst := Option.some 4, g := Go.Am.QG.no, op := Go.Op.alloc 62, type := 0 }]).seq
    (((Go.Am.QC.plain
              [{ dst := Option.some 7, g := Go.Am.QG.no, op := Go.Op.load 62 (Go.Operand.tmp 3), type := 62 },
                { dst := Option.some 8, g := Go.Am.QG.no,
                  op := Go.Op.move (Go.Operand.const (Go.Value.int Go.IntKind.i64 (Int.ofNat 0))), type := 3 }]).seq
          (Go.Am.QC.block 0
            ((Go.Am.QC.plain
                    [{ dst := Option.some 9, g := Go.Am.QG.no,
                        op :=
                          Go.Op.binOp Go.BinOp.lss 3 (Go.Operand.tmp 8)
                            (Go.Operand.const (Go.Value.int Go.IntKind.i64 (Int.ofNat 5))) 3,
                        type := 0 }]).seq
                ((Go.Am.QC.cond (Go.Operand.tmp 9) Go.Am.QC.skip (Go.Am.QC.exit 0)).seq
                  ((Go.Am.QC.block 1
                        ((Go.Am.QC.plain
                              [{ dst := Option.some 10, g := Go.Am.QG.no, op := Go.Op.move (Go.Operand.tmp 8),
                                  type := 3 },
                                { dst := Option.some 11, g := Go.Am.QG.no,
                                  op := Go.Op.index 62 (Go.Operand.tmp 7) (Go.Operand.tmp 8), type := 3 },
                                { dst := Option.some 5, g := Go.Am.QG.no, op := Go.Op.assign (Go.Operand.tmp 10),
                                  type := 3 },
                                { dst := Option.some 6, g := Go.Am.QG.no, op := Go.Op.assign (Go.Operand.tmp 11),
                                  type := 3 }]).seq
                          (Go.Am.QC.plain
                            [{ dst := Option.some 12, g := Go.Am.QG.no, op := Go.Op.move (Go.Operand.tmp 5),
                                type := 3 },
                              { dst := Option.some 13, g := Go.Am.QG.no, op := Go.Op.fieldAddr 27 (Go.Operand.tmp 2) 0,
                                type := 0 },
                              { dst := Option.some 14, g := Go.Am.QG.no, op := Go.Op.load 24 (Go.Operand.tmp 13),
                                type := 24 },
                              { dst := Option.some 15, g := Go.Am.QG.no, op := Go.Op.move (Go.Operand.tmp 6),
                                type := 3 },
                              { dst := Option.some 16, g := Go.Am.QG.no, op := Go.Op.move (Go.Operand.tmp 5),
                                type := 3 },
                              { dst := Option.some 17, g := Go.Am.QG.no,
                                op := Go.Op.indexAddr 24 (Go.Operand.tmp 14) (Go.Operand.tmp 15), type := 0 },
                              { dst := Option.some 18, g := Go.Am.QG.no,
                                op := Go.Op.indexAddr 62 (Go.Operand.tmp 17) (Go.Operand.tmp 16), type := 0 },
                              { dst := Option.some 19, g := Go.Am.QG.no, op := Go.Op.load 3 (Go.Operand.tmp 18),
                                type := 3 },
                              { dst := Option.some 20, g := Go.Am.QG.no,
                                op := Go.Op.indexAddr 62 (Go.Operand.tmp 3) (Go.Operand.tmp 12), type := 0 },
                              { dst := Option.none, g := Go.Am.QG.no,
                                op := Go.Op.store 3 (Go.Operand.tmp 20) (Go.Operand.tmp 19), type := 0 }]))).seq
                    (Go.Am.QC.plain
                      [{ dst := Option.some 21, g := Go.Am.QG.no,
                          op :=
                            Go.Op.binOp Go.BinOp.add 3 (Go.Operand.tmp 8)
                              (Go.Operand.const (Go.Value.int Go.IntKind.i64 (Int.ofNat 1))) 3,
                          type := 3 },
                        { dst := Option.some 8, g := Go.Am.QG.no, op := Go.Op.move (Go.Operand.tmp 21),
                          type := 3 }])))).loop)).seq
      ((Go.Am.QC.plain
            [{ dst := Option.some 22, g := Go.Am.QG.no, op := Go.Op.load 62 (Go.Operand.tmp 3), type := 62 },
              { dst := Option.none, g := Go.Am.QG.no, op := Go.Op.store 62 (Go.Operand.tmp 4) (Go.Operand.tmp 22),
                type := 0 }]).seq
        Go.Am.QC.ret)))
theorem q47_ok : bodyComp Tryz.prog 47 = some q47 := by kernel_rfl
noncomputable def q68 : QC :=
  ((Go.Am.QC.plain
        [{ dst := Option.some 4, g := Go.Am.QG.no, op := Go.Op.assign (Go.Operand.const (Go.Value.bool Bool.false)),
            type := 4 }]).seq
    ((Go.Am.QC.plain
          [{ dst := Option.some 5, g := Go.Am.QG.no, op := Go.Op.move (Go.Operand.tmp 0), type := 3 },
            { dst := Option.some 6, g := Go.Am.QG.no,
              op :=
                Go.Op.binOp Go.BinOp.lss 3 (Go.Operand.tmp 5)
                  (Go.Operand.const (Go.Value.int Go.IntKind.i64 (Int.ofNat 0))) 3,
              type := 4 },
            { dst := Option.some 7, g := Go.Am.QG.no, op := Go.Op.move (Go.Operand.tmp 6), type := 4 },
            { dst := Option.some 8, g := Go.Am.QG.at 7 Bool.false, op := Go.Op.move (Go.Operand.tmp 0), type := 3 },
            { dst := Option.some 9, g := Go.Am.QG.at 7 Bool.false, op := Go.Op.move (Go.Operand.tmp 1), type := 3 },
            { dst := Option.some 10, g := Go.Am.QG.at 7 Bool.false,
              op := Go.Op.binOp Go.BinOp.geq 3 (Go.Operand.tmp 8) (Go.Operand.tmp 9) 3, type := 4 },
            { dst := Option.some 11, g := Go.Am.QG.no,
              op := Go.Op.pick (Go.Operand.tmp 7) (Go.Operand.const (Go.Value.bool Bool.true)) (Go.Operand.tmp 10),
              type := 4 },
            { dst := Option.some 4, g := Go.Am.QG.no, op := Go.Op.assign (Go.Operand.tmp 11), type := 4 }]).seq
      Go.Am.QC.ret))
theorem q68_ok : bodyComp Tryz.prog 68 = some q68 := by kernel_rfl
end Go.Proofs.YtchnlooenomfnaaGreatDoor
