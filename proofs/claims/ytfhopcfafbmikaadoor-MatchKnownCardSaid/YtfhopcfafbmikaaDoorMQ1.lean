/-
  Proved: of these twenty texts and words whether the word is in the text's language, as milestonelaw5.MatchKnown asks it, holds whatever the argument is. Conditions: those of the given row alone (the table math/bits.deBruijn64tab starts as the program's text lays it).
-/
import Derived.Test.YtfhopcfafbmikaaDoorAmQ
import Derived.KernelRfl
import Derived.Test.YtfhopcfafbmikaaDoorProg
open Go Go.Am Go.Proofs
namespace Go.Proofs.YtfhopcfafbmikaaDoor
set_option maxRecDepth 100000
noncomputable def q24 : QC :=
  ((Go.Am.QC.plain [{ dst := Option.some 2, g := Go.Am.QG.no, op := Go.Op.alloc 28, type := 0 }]).seq
    ((Go.Am.QC.plain
          [{ dst := Option.some 7, g := Go.Am.QG.no, op := Go.Op.move (Go.Operand.tmp 0), type := 9 },
            { dst := Option.some 8, g := Go.Am.QG.no,
              op :=
                Go.Op.call
                  { callee := Go.Callee.value (Go.Operand.func 39), args := { toList := [Go.Operand.tmp 7] },
                    argTypes := { toList := [9] } },
              type := 66 },
            { dst := Option.some 6, g := Go.Am.QG.no, op := Go.Op.move (Go.Operand.tmp 8), type := 66 },
            { dst := Option.some 9, g := Go.Am.QG.no, op := Go.Op.extract (Go.Operand.tmp 6) 0, type := 28 },
            { dst := Option.some 10, g := Go.Am.QG.no, op := Go.Op.extract (Go.Operand.tmp 6) 1, type := 3 },
            { dst := Option.some 11, g := Go.Am.QG.no, op := Go.Op.extract (Go.Operand.tmp 6) 2, type := 3 },
            { dst := Option.some 3, g := Go.Am.QG.no, op := Go.Op.alloc 28, type := 0 },
            { dst := Option.none, g := Go.Am.QG.no, op := Go.Op.store 28 (Go.Operand.tmp 3) (Go.Operand.tmp 9),
              type := 0 },
            { dst := Option.some 4, g := Go.Am.QG.no, op := Go.Op.assign (Go.Operand.tmp 10), type := 3 },
            { dst := Option.some 5, g := Go.Am.QG.no, op := Go.Op.assign (Go.Operand.tmp 11), type := 3 }]).seq
      ((Go.Am.QC.plain
            [{ dst := Option.some 12, g := Go.Am.QG.no, op := Go.Op.load 28 (Go.Operand.tmp 3), type := 28 },
              { dst := Option.none, g := Go.Am.QG.no, op := Go.Op.store 28 (Go.Operand.tmp 2) (Go.Operand.tmp 12),
                type := 0 }]).seq
        Go.Am.QC.ret)))
theorem q24_ok : bodyComp Tryd.prog 24 = some q24 := by kernel_rfl
noncomputable def q39 : QC :=
  ((Go.Am.QC.plain
        [{ dst := Option.some 2, g := Go.Am.QG.no, op := Go.Op.alloc 28, type := 0 },
          { dst := Option.some 3, g := Go.Am.QG.no,
            op := Go.Op.assign (Go.Operand.const (Go.Value.int Go.IntKind.i64 (Int.ofNat 0))), type := 3 },
          { dst := Option.some 4, g := Go.Am.QG.no,
            op := Go.Op.assign (Go.Operand.const (Go.Value.int Go.IntKind.i64 (Int.ofNat 0))), type := 3 }]).seq
    (((Go.Am.QC.plain
              [{ dst := Option.some 7, g := Go.Am.QG.no, op := Go.Op.move (Go.Operand.tmp 0), type := 9 },
                { dst := Option.some 8, g := Go.Am.QG.no,
                  op :=
                    Go.Op.call
                      { callee := Go.Callee.builtin Go.Builtin.len, args := { toList := [Go.Operand.tmp 7] },
                        argTypes := { toList := [9] } },
                  type := 3 },
                { dst := Option.some 9, g := Go.Am.QG.no,
                  op :=
                    Go.Op.binOp Go.BinOp.gtr 3 (Go.Operand.tmp 8)
                      (Go.Operand.const (Go.Value.int Go.IntKind.i64 (Int.ofNat 200))) 3,
                  type := 4 }]).seq
          (Go.Am.QC.cond (Go.Operand.tmp 9)
            ((Go.Am.QC.plain
                  [{ dst := Option.some 10, g := Go.Am.QG.no, op := Go.Op.build 28 { toList := [] }, type := 28 },
                    { dst := Option.none, g := Go.Am.QG.no, op := Go.Op.store 28 (Go.Operand.tmp 2) (Go.Operand.tmp 10),
                      type := 0 },
                    { dst := Option.some 3, g := Go.Am.QG.no,
                      op := Go.Op.assign (Go.Operand.const (Go.Value.int Go.IntKind.i64 (Int.ofNat 0))), type := 3 },
                    { dst := Option.some 4, g := Go.Am.QG.no,
                      op := Go.Op.assign (Go.Operand.const (Go.Value.int Go.IntKind.i64 (Int.ofNat 4))),
                      type := 3 }]).seq
              Go.Am.QC.ret)
            Go.Am.QC.skip)).seq
      ((Go.Am.QC.plain
            [{ dst := Option.some 11, g := Go.Am.QG.no, op := Go.Op.move (Go.Operand.tmp 0), type := 9 },
              { dst := Option.some 12, g := Go.Am.QG.no, op := Go.Op.build 82 { toList := [(0, Go.Operand.tmp 11)] },
                type := 82 },
              { dst := Option.some 13, g := Go.Am.QG.no, op := Go.Op.box 82 (Go.Operand.tmp 12), type := 80 },
              { dst := Option.some 5, g := Go.Am.QG.no, op := Go.Op.assign (Go.Operand.tmp 13), type := 80 }]).seq
        ((Go.Am.QC.plain
              [{ dst := Option.some 14, g := Go.Am.QG.no, op := Go.Op.move (Go.Operand.tmp 5), type := 80 },
                { dst := Option.some 15, g := Go.Am.QG.no,
                  op :=
                    Go.Op.call
                      { callee := Go.Callee.value (Go.Operand.func 55), args := { toList := [Go.Operand.tmp 14] },
                        argTypes := { toList := [80] } },
                  type := 28 },
                { dst := Option.some 6, g := Go.Am.QG.no, op := Go.Op.alloc 28, type := 0 },
                { dst := Option.none, g := Go.Am.QG.no, op := Go.Op.store 28 (Go.Operand.tmp 6) (Go.Operand.tmp 15),
                  type := 0 }]).seq
          (((Go.Am.QC.plain
                    [{ dst := Option.some 16, g := Go.Am.QG.no, op := Go.Op.move (Go.Operand.tmp 5), type := 80 },
                      { dst := Option.some 17, g := Go.Am.QG.no, op := Go.Op.nilCheck (Go.Operand.tmp 16), type := 0 },
                      { dst := Option.some 18, g := Go.Am.QG.no, op := Go.Op.fieldAddr 82 (Go.Operand.tmp 17) 3,
                        type := 0 },
                      { dst := Option.some 19, g := Go.Am.QG.no, op := Go.Op.load 3 (Go.Operand.tmp 18), type := 3 },
                      { dst := Option.some 20, g := Go.Am.QG.no,
                        op :=
                          Go.Op.binOp Go.BinOp.eql 3 (Go.Operand.tmp 19)
                            (Go.Operand.const (Go.Value.int Go.IntKind.i64 (Int.ofNat 0))) 3,
                        type := 4 },
                      { dst := Option.some 21, g := Go.Am.QG.no, op := Go.Op.move (Go.Operand.tmp 20), type := 4 },
                      { dst := Option.some 22, g := Go.Am.QG.at 21 Bool.true, op := Go.Op.move (Go.Operand.tmp 5),
                        type := 80 },
                      { dst := Option.some 23, g := Go.Am.QG.at 21 Bool.true, op := Go.Op.nilCheck (Go.Operand.tmp 22),
                        type := 0 },
                      { dst := Option.some 24, g := Go.Am.QG.at 21 Bool.true,
                        op := Go.Op.fieldAddr 82 (Go.Operand.tmp 23) 1, type := 0 },
                      { dst := Option.some 25, g := Go.Am.QG.at 21 Bool.true, op := Go.Op.load 3 (Go.Operand.tmp 24),
                        type := 3 },
                      { dst := Option.some 26, g := Go.Am.QG.at 21 Bool.true, op := Go.Op.move (Go.Operand.tmp 0),
                        type := 9 },
                      { dst := Option.some 27, g := Go.Am.QG.at 21 Bool.true,
                        op :=
                          Go.Op.call
                            { callee := Go.Callee.builtin Go.Builtin.len, args := { toList := [Go.Operand.tmp 26] },
                              argTypes := { toList := [9] } },
                        type := 3 },
                      { dst := Option.some 28, g := Go.Am.QG.at 21 Bool.true,
                        op := Go.Op.binOp Go.BinOp.lss 3 (Go.Operand.tmp 25) (Go.Operand.tmp 27) 3, type := 4 },
                      { dst := Option.some 29, g := Go.Am.QG.no,
                        op :=
                          Go.Op.pick (Go.Operand.tmp 21) (Go.Operand.tmp 28)
                            (Go.Operand.const (Go.Value.bool Bool.false)),
                        type := 4 }]).seq
                (Go.Am.QC.cond (Go.Operand.tmp 29)
                  (Go.Am.QC.plain
                    [{ dst := Option.some 30, g := Go.Am.QG.no, op := Go.Op.move (Go.Operand.tmp 5), type := 80 },
                      { dst := Option.some 31, g := Go.Am.QG.no,
                        op :=
                          Go.Op.call
                            { callee := Go.Callee.value (Go.Operand.func 56),
                              args :=
                                {
                                  toList :=
                                    [Go.Operand.tmp 30, Go.Operand.const (Go.Value.int Go.IntKind.i64 (Int.ofNat 3))] },
                              argTypes := { toList := [80, 3] } },
                        type := 28 }])
                  Go.Am.QC.skip)).seq
            (((Go.Am.QC.plain
                      [{ dst := Option.some 32, g := Go.Am.QG.no, op := Go.Op.move (Go.Operand.tmp 5), type := 80 },
                        { dst := Option.some 33, g := Go.Am.QG.no, op := Go.Op.nilCheck (Go.Operand.tmp 32),
                          type := 0 },
                        { dst := Option.some 34, g := Go.Am.QG.no, op := Go.Op.fieldAddr 82 (Go.Operand.tmp 33) 3,
                          type := 0 },
                        { dst := Option.some 35, g := Go.Am.QG.no, op := Go.Op.load 3 (Go.Operand.tmp 34), type := 3 },
                        { dst := Option.some 36, g := Go.Am.QG.no,
                          op :=
                            Go.Op.binOp Go.BinOp.neq 3 (Go.Operand.tmp 35)
                              (Go.Operand.const (Go.Value.int Go.IntKind.i64 (Int.ofNat 0))) 3,
                          type := 4 }]).seq
                  (Go.Am.QC.cond (Go.Operand.tmp 36)
                    ((Go.Am.QC.drawn
                          {
                            toList :=
                              [{ dst := Option.some 37, op := Go.Op.build 28 { toList := [] }, type := 28,
                                  pos := "ref.go:294", after := { toList := [] }, guard := Option.none },
                                { dst := Option.some 38, op := Go.Op.move (Go.Operand.tmp 5), type := 80,
                                  pos := "ref.go:294",
                                  after :=
                                    { toList := [{ on := 9, ground := Go.Ground.gcOnly Go.Departure.lateStores }] },
                                  guard := Option.none },
                                { dst := Option.some 39, op := Go.Op.nilCheck (Go.Operand.tmp 38), type := 0,
                                  pos := "ref.go:294",
                                  after :=
                                    {
                                      toList :=
                                        [{ on := 1, ground := Go.Ground.data },
                                          { on := 9, ground := Go.Ground.gcOnly Go.Departure.lateStores }] },
                                  guard := Option.none },
                                { dst := Option.some 40, op := Go.Op.fieldAddr 82 (Go.Operand.tmp 39) 1, type := 0,
                                  pos := "ref.go:294",
                                  after :=
                                    {
                                      toList :=
                                        [{ on := 2, ground := Go.Ground.data },
                                          { on := 9, ground := Go.Ground.gcOnly Go.Departure.lateStores }] },
                                  guard := Option.none },
                                { dst := Option.some 41, op := Go.Op.load 3 (Go.Operand.tmp 40), type := 3,
                                  pos := "ref.go:294",
                                  after :=
                                    {
                                      toList :=
                                        [{ on := 3, ground := Go.Ground.data },
                                          { on := 9, ground := Go.Ground.gcOnly Go.Departure.lateStores }] },
                                  guard := Option.none },
                                { dst := Option.some 42, op := Go.Op.move (Go.Operand.tmp 5), type := 80,
                                  pos := "ref.go:294",
                                  after :=
                                    { toList := [{ on := 10, ground := Go.Ground.gcOnly Go.Departure.lateStores }] },
                                  guard := Option.none },
                                { dst := Option.some 43, op := Go.Op.nilCheck (Go.Operand.tmp 42), type := 0,
                                  pos := "ref.go:294",
                                  after :=
                                    {
                                      toList :=
                                        [{ on := 5, ground := Go.Ground.data },
                                          { on := 10, ground := Go.Ground.gcOnly Go.Departure.lateStores }] },
                                  guard := Option.none },
                                { dst := Option.some 44, op := Go.Op.fieldAddr 82 (Go.Operand.tmp 43) 3, type := 0,
                                  pos := "ref.go:294",
                                  after :=
                                    {
                                      toList :=
                                        [{ on := 6, ground := Go.Ground.data },
                                          { on := 10, ground := Go.Ground.gcOnly Go.Departure.lateStores }] },
                                  guard := Option.none },
                                { dst := Option.some 45, op := Go.Op.load 3 (Go.Operand.tmp 44), type := 3,
                                  pos := "ref.go:294",
                                  after :=
                                    {
                                      toList :=
                                        [{ on := 7, ground := Go.Ground.data },
                                          { on := 10, ground := Go.Ground.gcOnly Go.Departure.lateStores }] },
                                  guard := Option.none },
                                { dst := Option.none, op := Go.Op.store 28 (Go.Operand.tmp 2) (Go.Operand.tmp 37),
                                  type := 0, pos := "ref.go:294",
                                  after :=
                                    {
                                      toList :=
                                        [{ on := 0, ground := Go.Ground.data }, { on := 0, ground := Go.Ground.phase },
                                          { on := 1, ground := Go.Ground.textOnly Go.Departure.lateStores },
                                          { on := 2, ground := Go.Ground.textOnly Go.Departure.lateStores },
                                          { on := 3, ground := Go.Ground.textOnly Go.Departure.lateStores },
                                          { on := 4, ground := Go.Ground.textOnly Go.Departure.lateStores },
                                          { on := 5, ground := Go.Ground.textOnly Go.Departure.lateStores },
                                          { on := 6, ground := Go.Ground.textOnly Go.Departure.lateStores },
                                          { on := 7, ground := Go.Ground.textOnly Go.Departure.lateStores },
                                          { on := 8, ground := Go.Ground.textOnly Go.Departure.lateStores }] },
                                  guard := Option.none },
                                { dst := Option.some 3, op := Go.Op.assign (Go.Operand.tmp 41), type := 3,
                                  pos := "ref.go:294",
                                  after :=
                                    {
                                      toList :=
                                        [{ on := 4, ground := Go.Ground.data }, { on := 9, ground := Go.Ground.chain },
                                          { on := 0, ground := Go.Ground.phase },
                                          { on := 1, ground := Go.Ground.phase },
                                          { on := 2, ground := Go.Ground.phase },
                                          { on := 3, ground := Go.Ground.phase },
                                          { on := 4, ground := Go.Ground.phase },
                                          { on := 5, ground := Go.Ground.textOnly Go.Departure.lateStores },
                                          { on := 6, ground := Go.Ground.textOnly Go.Departure.lateStores },
                                          { on := 7, ground := Go.Ground.textOnly Go.Departure.lateStores },
                                          { on := 8, ground := Go.Ground.textOnly Go.Departure.lateStores },
                                          { on := 9, ground := Go.Ground.phase }] },
                                  guard := Option.none },
                                { dst := Option.some 4, op := Go.Op.assign (Go.Operand.tmp 45), type := 3,
                                  pos := "ref.go:294",
                                  after :=
                                    {
                                      toList :=
                                        [{ on := 8, ground := Go.Ground.data }, { on := 10, ground := Go.Ground.chain },
                                          { on := 0, ground := Go.Ground.phase },
                                          { on := 1, ground := Go.Ground.phase },
                                          { on := 2, ground := Go.Ground.phase },
                                          { on := 3, ground := Go.Ground.phase },
                                          { on := 4, ground := Go.Ground.phase },
                                          { on := 5, ground := Go.Ground.phase },
                                          { on := 6, ground := Go.Ground.phase },
                                          { on := 7, ground := Go.Ground.phase },
                                          { on := 8, ground := Go.Ground.phase },
                                          { on := 9, ground := Go.Ground.phase },
                                          { on := 10, ground := Go.Ground.phase }] },
                                  guard := Option.none }] }).seq
                      Go.Am.QC.ret)
                    Go.Am.QC.skip)).seq
              ((Go.Am.QC.plain
                    [{ dst := Option.some 46, g := Go.Am.QG.no, op := Go.Op.load 28 (Go.Operand.tmp 6), type := 28 },
                      { dst := Option.none, g := Go.Am.QG.no,
                        op := Go.Op.store 28 (Go.Operand.tmp 2) (Go.Operand.tmp 46), type := 0 },
                      { dst := Option.some 3, g := Go.Am.QG.no,
                        op := Go.Op.assign (Go.Operand.const (Go.Value.int Go.IntKind.i64 (Int.ofNat 0))), type := 3 },
                      { dst := Option.some 4, g := Go.Am.QG.no,
                        op := Go.Op.assign (Go.Operand.const (Go.Value.int Go.IntKind.i64 (Int.ofNat 0))),
                        type := 3 }]).seq
                Go.Am.QC.ret)))))))
theorem q39_ok : bodyComp Tryd.prog 39 = some q39 := by kernel_rfl
noncomputable def q55 : QC :=
  ((Go.Am.QC.plain [{ dst := Option.some 2, g := Go.Am.QG.no, op := Go.Op.alloc 28, type := 0 }]).seq
    ((Go.Am.QC.plain
          [{ dst := Option.some 6, g := Go.Am.QG.no, op := Go.Op.move (Go.Operand.tmp 0), type := 80 },
            { dst := Option.some 7, g := Go.Am.QG.no,
              op :=
                Go.Op.call
                  { callee := Go.Callee.value (Go.Operand.func 68), args := { toList := [Go.Operand.tmp 6] },
                    argTypes := { toList := [80] } },
              type := 28 },
            { dst := Option.some 8, g := Go.Am.QG.no, op := Go.Op.buildSlice 26 1 { toList := [(0, Go.Operand.tmp 7)] },
              type := 26 },
            { dst := Option.some 3, g := Go.Am.QG.no, op := Go.Op.assign (Go.Operand.tmp 8), type := 26 }]).seq
      ((Go.Am.QC.block 0
            (Go.Am.QC.block 1
                ((Go.Am.QC.plain
                      [{ dst := Option.some 10, g := Go.Am.QG.no, op := Go.Op.move (Go.Operand.tmp 0), type := 80 },
                        { dst := Option.some 11, g := Go.Am.QG.no,
                          op :=
                            Go.Op.call
                              { callee := Go.Callee.value (Go.Operand.func 69),
                                args := { toList := [Go.Operand.tmp 10] }, argTypes := { toList := [80] } },
                          type := 100 },
                        { dst := Option.some 9, g := Go.Am.QG.no, op := Go.Op.move (Go.Operand.tmp 11), type := 100 },
                        { dst := Option.some 12, g := Go.Am.QG.no, op := Go.Op.extract (Go.Operand.tmp 9) 0,
                          type := 5 },
                        { dst := Option.some 13, g := Go.Am.QG.no, op := Go.Op.extract (Go.Operand.tmp 9) 1,
                          type := 4 },
                        { dst := Option.some 4, g := Go.Am.QG.no, op := Go.Op.assign (Go.Operand.tmp 12), type := 5 },
                        { dst := Option.some 5, g := Go.Am.QG.no, op := Go.Op.assign (Go.Operand.tmp 13),
                          type := 4 }]).seq
                  (((Go.Am.QC.plain
                            [{ dst := Option.some 14, g := Go.Am.QG.no, op := Go.Op.move (Go.Operand.tmp 5),
                                type := 4 },
                              { dst := Option.some 15, g := Go.Am.QG.no,
                                op := Go.Op.unOp Go.UnOp.not 4 (Go.Operand.tmp 14), type := 4 },
                              { dst := Option.some 16, g := Go.Am.QG.no, op := Go.Op.move (Go.Operand.tmp 15),
                                type := 4 },
                              { dst := Option.some 17, g := Go.Am.QG.at 16 Bool.false,
                                op := Go.Op.move (Go.Operand.tmp 4), type := 5 },
                              { dst := Option.some 18, g := Go.Am.QG.at 16 Bool.false,
                                op :=
                                  Go.Op.binOp Go.BinOp.neq 5 (Go.Operand.tmp 17)
                                    (Go.Operand.const (Go.Value.int Go.IntKind.u8 (Int.ofNat 124))) 5,
                                type := 4 },
                              { dst := Option.some 19, g := Go.Am.QG.no,
                                op :=
                                  Go.Op.pick (Go.Operand.tmp 16) (Go.Operand.const (Go.Value.bool Bool.true))
                                    (Go.Operand.tmp 18),
                                type := 4 }]).seq
                        (Go.Am.QC.cond (Go.Operand.tmp 19) (Go.Am.QC.exit 0) Go.Am.QC.skip)).seq
                    ((Go.Am.QC.plain
                          [{ dst := Option.some 20, g := Go.Am.QG.no, op := Go.Op.move (Go.Operand.tmp 0), type := 80 },
                            { dst := Option.some 21, g := Go.Am.QG.no, op := Go.Op.nilCheck (Go.Operand.tmp 20),
                              type := 0 },
                            { dst := Option.some 22, g := Go.Am.QG.no, op := Go.Op.fieldAddr 82 (Go.Operand.tmp 21) 1,
                              type := 0 },
                            { dst := Option.some 23, g := Go.Am.QG.no, op := Go.Op.load 3 (Go.Operand.tmp 22),
                              type := 3 },
                            { dst := Option.some 24, g := Go.Am.QG.no,
                              op :=
                                Go.Op.binOp Go.BinOp.add 3 (Go.Operand.tmp 23)
                                  (Go.Operand.const (Go.Value.int Go.IntKind.i64 (Int.ofNat 1))) 3,
                              type := 3 },
                            { dst := Option.some 25, g := Go.Am.QG.no, op := Go.Op.nilCheck (Go.Operand.tmp 20),
                              type := 0 },
                            { dst := Option.some 26, g := Go.Am.QG.no, op := Go.Op.fieldAddr 82 (Go.Operand.tmp 25) 1,
                              type := 0 },
                            { dst := Option.none, g := Go.Am.QG.no,
                              op := Go.Op.store 3 (Go.Operand.tmp 26) (Go.Operand.tmp 24), type := 0 }]).seq
                      (Go.Am.QC.plain
                        [{ dst := Option.some 27, g := Go.Am.QG.no, op := Go.Op.move (Go.Operand.tmp 3), type := 26 },
                          { dst := Option.some 28, g := Go.Am.QG.no, op := Go.Op.move (Go.Operand.tmp 0), type := 80 },
                          { dst := Option.some 29, g := Go.Am.QG.no,
                            op :=
                              Go.Op.call
                                { callee := Go.Callee.value (Go.Operand.func 68),
                                  args := { toList := [Go.Operand.tmp 28] }, argTypes := { toList := [80] } },
                            type := 28 },
                          { dst := Option.some 30, g := Go.Am.QG.no,
                            op := Go.Op.buildSlice 26 1 { toList := [(0, Go.Operand.tmp 29)] }, type := 26 },
                          { dst := Option.some 31, g := Go.Am.QG.no,
                            op :=
                              Go.Op.call
                                { callee := Go.Callee.builtin Go.Builtin.append,
                                  args := { toList := [Go.Operand.tmp 27, Go.Operand.tmp 30] },
                                  argTypes := { toList := [26, 26] } },
                            type := 26 },
                          { dst := Option.some 3, g := Go.Am.QG.no, op := Go.Op.assign (Go.Operand.tmp 31),
                            type := 26 }]))))).loop).seq
        (((Go.Am.QC.plain
                  [{ dst := Option.some 32, g := Go.Am.QG.no, op := Go.Op.move (Go.Operand.tmp 3), type := 26 },
                    { dst := Option.some 33, g := Go.Am.QG.no,
                      op :=
                        Go.Op.call
                          { callee := Go.Callee.builtin Go.Builtin.len, args := { toList := [Go.Operand.tmp 32] },
                            argTypes := { toList := [26] } },
                      type := 3 },
                    { dst := Option.some 34, g := Go.Am.QG.no,
                      op :=
                        Go.Op.binOp Go.BinOp.eql 3 (Go.Operand.tmp 33)
                          (Go.Operand.const (Go.Value.int Go.IntKind.i64 (Int.ofNat 1))) 3,
                      type := 4 }]).seq
              (Go.Am.QC.cond (Go.Operand.tmp 34)
                ((Go.Am.QC.plain
                      [{ dst := Option.some 35, g := Go.Am.QG.no, op := Go.Op.move (Go.Operand.tmp 3), type := 26 },
                        { dst := Option.some 36, g := Go.Am.QG.no,
                          op :=
                            Go.Op.indexAddr 26 (Go.Operand.tmp 35)
                              (Go.Operand.const (Go.Value.int Go.IntKind.i64 (Int.ofNat 0))),
                          type := 0 },
                        { dst := Option.some 37, g := Go.Am.QG.no, op := Go.Op.load 28 (Go.Operand.tmp 36),
                          type := 28 },
                        { dst := Option.none, g := Go.Am.QG.no,
                          op := Go.Op.store 28 (Go.Operand.tmp 2) (Go.Operand.tmp 37), type := 0 }]).seq
                  Go.Am.QC.ret)
                Go.Am.QC.skip)).seq
          ((Go.Am.QC.plain
                [{ dst := Option.some 38, g := Go.Am.QG.no, op := Go.Op.move (Go.Operand.tmp 3), type := 26 },
                  { dst := Option.some 39, g := Go.Am.QG.no,
                    op :=
                      Go.Op.build 28
                        {
                          toList :=
                            [(0, Go.Operand.const (Go.Value.int Go.IntKind.i64 (Int.ofNat 5))),
                              (4, Go.Operand.tmp 38)] },
                    type := 28 },
                  { dst := Option.none, g := Go.Am.QG.no, op := Go.Op.store 28 (Go.Operand.tmp 2) (Go.Operand.tmp 39),
                    type := 0 }]).seq
            Go.Am.QC.ret)))))
theorem q55_ok : bodyComp Tryd.prog 55 = some q55 := by kernel_rfl
noncomputable def q56 : QC :=
  ((Go.Am.QC.plain [{ dst := Option.some 4, g := Go.Am.QG.no, op := Go.Op.alloc 28, type := 0 }]).seq
    (((Go.Am.QC.plain
              [{ dst := Option.some 5, g := Go.Am.QG.no, op := Go.Op.move (Go.Operand.tmp 0), type := 80 },
                { dst := Option.some 6, g := Go.Am.QG.no, op := Go.Op.nilCheck (Go.Operand.tmp 5), type := 0 },
                { dst := Option.some 7, g := Go.Am.QG.no, op := Go.Op.fieldAddr 82 (Go.Operand.tmp 6) 3, type := 0 },
                { dst := Option.some 8, g := Go.Am.QG.no, op := Go.Op.load 3 (Go.Operand.tmp 7), type := 3 },
                { dst := Option.some 9, g := Go.Am.QG.no,
                  op :=
                    Go.Op.binOp Go.BinOp.eql 3 (Go.Operand.tmp 8)
                      (Go.Operand.const (Go.Value.int Go.IntKind.i64 (Int.ofNat 0))) 3,
                  type := 4 }]).seq
          (Go.Am.QC.cond (Go.Operand.tmp 9)
            (Go.Am.QC.plain
              [{ dst := Option.some 10, g := Go.Am.QG.no, op := Go.Op.move (Go.Operand.tmp 0), type := 80 },
                { dst := Option.some 11, g := Go.Am.QG.no, op := Go.Op.move (Go.Operand.tmp 1), type := 3 },
                { dst := Option.some 12, g := Go.Am.QG.no, op := Go.Op.nilCheck (Go.Operand.tmp 10), type := 0 },
                { dst := Option.some 13, g := Go.Am.QG.no, op := Go.Op.fieldAddr 82 (Go.Operand.tmp 12) 3, type := 0 },
                { dst := Option.none, g := Go.Am.QG.no, op := Go.Op.store 3 (Go.Operand.tmp 13) (Go.Operand.tmp 11),
                  type := 0 }])
            Go.Am.QC.skip)).seq
      ((Go.Am.QC.plain
            [{ dst := Option.some 14, g := Go.Am.QG.no, op := Go.Op.build 28 { toList := [] }, type := 28 },
              { dst := Option.none, g := Go.Am.QG.no, op := Go.Op.store 28 (Go.Operand.tmp 4) (Go.Operand.tmp 14),
                type := 0 }]).seq
        Go.Am.QC.ret)))
theorem q56_ok : bodyComp Tryd.prog 56 = some q56 := by kernel_rfl
noncomputable def q68 : QC :=
  ((Go.Am.QC.plain [{ dst := Option.some 2, g := Go.Am.QG.no, op := Go.Op.alloc 28, type := 0 }]).seq
    ((Go.Am.QC.plain
          [{ dst := Option.some 6, g := Go.Am.QG.no, op := Go.Op.move (Go.Operand.tmp 0), type := 80 },
            { dst := Option.some 7, g := Go.Am.QG.no,
              op :=
                Go.Op.call
                  { callee := Go.Callee.value (Go.Operand.func 82), args := { toList := [Go.Operand.tmp 6] },
                    argTypes := { toList := [80] } },
              type := 28 },
            { dst := Option.some 8, g := Go.Am.QG.no, op := Go.Op.buildSlice 26 1 { toList := [(0, Go.Operand.tmp 7)] },
              type := 26 },
            { dst := Option.some 3, g := Go.Am.QG.no, op := Go.Op.assign (Go.Operand.tmp 8), type := 26 }]).seq
      ((Go.Am.QC.block 0
            (Go.Am.QC.block 1
                ((Go.Am.QC.plain
                      [{ dst := Option.some 10, g := Go.Am.QG.no, op := Go.Op.move (Go.Operand.tmp 0), type := 80 },
                        { dst := Option.some 11, g := Go.Am.QG.no,
                          op :=
                            Go.Op.call
                              { callee := Go.Callee.value (Go.Operand.func 69),
                                args := { toList := [Go.Operand.tmp 10] }, argTypes := { toList := [80] } },
                          type := 100 },
                        { dst := Option.some 9, g := Go.Am.QG.no, op := Go.Op.move (Go.Operand.tmp 11), type := 100 },
                        { dst := Option.some 12, g := Go.Am.QG.no, op := Go.Op.extract (Go.Operand.tmp 9) 0,
                          type := 5 },
                        { dst := Option.some 13, g := Go.Am.QG.no, op := Go.Op.extract (Go.Operand.tmp 9) 1,
                          type := 4 },
                        { dst := Option.some 4, g := Go.Am.QG.no, op := Go.Op.assign (Go.Operand.tmp 12), type := 5 },
                        { dst := Option.some 5, g := Go.Am.QG.no, op := Go.Op.assign (Go.Operand.tmp 13),
                          type := 4 }]).seq
                  (((Go.Am.QC.plain
                            [{ dst := Option.some 14, g := Go.Am.QG.no, op := Go.Op.move (Go.Operand.tmp 5),
                                type := 4 },
                              { dst := Option.some 15, g := Go.Am.QG.no,
                                op := Go.Op.unOp Go.UnOp.not 4 (Go.Operand.tmp 14), type := 4 },
                              { dst := Option.some 16, g := Go.Am.QG.no, op := Go.Op.move (Go.Operand.tmp 15),
                                type := 4 },
                              { dst := Option.some 17, g := Go.Am.QG.at 16 Bool.false,
                                op := Go.Op.move (Go.Operand.tmp 4), type := 5 },
                              { dst := Option.some 18, g := Go.Am.QG.at 16 Bool.false,
                                op :=
                                  Go.Op.binOp Go.BinOp.eql 5 (Go.Operand.tmp 17)
                                    (Go.Operand.const (Go.Value.int Go.IntKind.u8 (Int.ofNat 124))) 5,
                                type := 4 },
                              { dst := Option.some 19, g := Go.Am.QG.no,
                                op :=
                                  Go.Op.pick (Go.Operand.tmp 16) (Go.Operand.const (Go.Value.bool Bool.true))
                                    (Go.Operand.tmp 18),
                                type := 4 },
                              { dst := Option.some 20, g := Go.Am.QG.no, op := Go.Op.move (Go.Operand.tmp 19),
                                type := 4 },
                              { dst := Option.some 21, g := Go.Am.QG.at 20 Bool.false,
                                op := Go.Op.move (Go.Operand.tmp 4), type := 5 },
                              { dst := Option.some 22, g := Go.Am.QG.at 20 Bool.false,
                                op :=
                                  Go.Op.binOp Go.BinOp.eql 5 (Go.Operand.tmp 21)
                                    (Go.Operand.const (Go.Value.int Go.IntKind.u8 (Int.ofNat 41))) 5,
                                type := 4 },
                              { dst := Option.some 23, g := Go.Am.QG.no,
                                op :=
                                  Go.Op.pick (Go.Operand.tmp 20) (Go.Operand.const (Go.Value.bool Bool.true))
                                    (Go.Operand.tmp 22),
                                type := 4 }]).seq
                        (Go.Am.QC.cond (Go.Operand.tmp 23) (Go.Am.QC.exit 0) Go.Am.QC.skip)).seq
                    (Go.Am.QC.plain
                      [{ dst := Option.some 24, g := Go.Am.QG.no, op := Go.Op.move (Go.Operand.tmp 3), type := 26 },
                        { dst := Option.some 25, g := Go.Am.QG.no, op := Go.Op.move (Go.Operand.tmp 0), type := 80 },
                        { dst := Option.some 26, g := Go.Am.QG.no,
                          op :=
                            Go.Op.call
                              { callee := Go.Callee.value (Go.Operand.func 82),
                                args := { toList := [Go.Operand.tmp 25] }, argTypes := { toList := [80] } },
                          type := 28 },
                        { dst := Option.some 27, g := Go.Am.QG.no,
                          op := Go.Op.buildSlice 26 1 { toList := [(0, Go.Operand.tmp 26)] }, type := 26 },
                        { dst := Option.some 28, g := Go.Am.QG.no,
                          op :=
                            Go.Op.call
                              { callee := Go.Callee.builtin Go.Builtin.append,
                                args := { toList := [Go.Operand.tmp 24, Go.Operand.tmp 27] },
                                argTypes := { toList := [26, 26] } },
                          type := 26 },
                        { dst := Option.some 3, g := Go.Am.QG.no, op := Go.Op.assign (Go.Operand.tmp 28),
                          type := 26 }])))).loop).seq
        (((Go.Am.QC.plain
                  [{ dst := Option.some 29, g := Go.Am.QG.no, op := Go.Op.move (Go.Operand.tmp 3), type := 26 },
                    { dst := Option.some 30, g := Go.Am.QG.no,
                      op :=
                        Go.Op.call
                          { callee := Go.Callee.builtin Go.Builtin.len, args := { toList := [Go.Operand.tmp 29] },
                            argTypes := { toList := [26] } },
                      type := 3 },
                    { dst := Option.some 31, g := Go.Am.QG.no,
                      op :=
                        Go.Op.binOp Go.BinOp.eql 3 (Go.Operand.tmp 30)
                          (Go.Operand.const (Go.Value.int Go.IntKind.i64 (Int.ofNat 1))) 3,
                      type := 4 }]).seq
              (Go.Am.QC.cond (Go.Operand.tmp 31)
                ((Go.Am.QC.plain
                      [{ dst := Option.some 32, g := Go.Am.QG.no, op := Go.Op.move (Go.Operand.tmp 3), type := 26 },
                        { dst := Option.some 33, g := Go.Am.QG.no,
                          op :=
                            Go.Op.indexAddr 26 (Go.Operand.tmp 32)
                              (Go.Operand.const (Go.Value.int Go.IntKind.i64 (Int.ofNat 0))),
                          type := 0 },
                        { dst := Option.some 34, g := Go.Am.QG.no, op := Go.Op.load 28 (Go.Operand.tmp 33),
                          type := 28 },
                        { dst := Option.none, g := Go.Am.QG.no,
                          op := Go.Op.store 28 (Go.Operand.tmp 2) (Go.Operand.tmp 34), type := 0 }]).seq
                  Go.Am.QC.ret)
                Go.Am.QC.skip)).seq
          ((Go.Am.QC.plain
                [{ dst := Option.some 35, g := Go.Am.QG.no, op := Go.Op.move (Go.Operand.tmp 3), type := 26 },
                  { dst := Option.some 36, g := Go.Am.QG.no,
                    op :=
                      Go.Op.build 28
                        {
                          toList :=
                            [(0, Go.Operand.const (Go.Value.int Go.IntKind.i64 (Int.ofNat 4))),
                              (4, Go.Operand.tmp 35)] },
                    type := 28 },
                  { dst := Option.none, g := Go.Am.QG.no, op := Go.Op.store 28 (Go.Operand.tmp 2) (Go.Operand.tmp 36),
                    type := 0 }]).seq
            Go.Am.QC.ret)))))
theorem q68_ok : bodyComp Tryd.prog 68 = some q68 := by kernel_rfl
noncomputable def q69 : QC :=
  ((Go.Am.QC.plain
        [{ dst := Option.some 2, g := Go.Am.QG.no,
            op := Go.Op.assign (Go.Operand.const (Go.Value.int Go.IntKind.u8 (Int.ofNat 0))), type := 5 },
          { dst := Option.some 3, g := Go.Am.QG.no, op := Go.Op.assign (Go.Operand.const (Go.Value.bool Bool.false)),
            type := 4 }]).seq
    (((Go.Am.QC.plain
              [{ dst := Option.some 4, g := Go.Am.QG.no, op := Go.Op.move (Go.Operand.tmp 0), type := 80 },
                { dst := Option.some 5, g := Go.Am.QG.no, op := Go.Op.nilCheck (Go.Operand.tmp 4), type := 0 },
                { dst := Option.some 6, g := Go.Am.QG.no, op := Go.Op.fieldAddr 82 (Go.Operand.tmp 5) 1, type := 0 },
                { dst := Option.some 7, g := Go.Am.QG.no, op := Go.Op.load 3 (Go.Operand.tmp 6), type := 3 },
                { dst := Option.some 8, g := Go.Am.QG.no, op := Go.Op.move (Go.Operand.tmp 0), type := 80 },
                { dst := Option.some 9, g := Go.Am.QG.no, op := Go.Op.nilCheck (Go.Operand.tmp 8), type := 0 },
                { dst := Option.some 10, g := Go.Am.QG.no, op := Go.Op.fieldAddr 82 (Go.Operand.tmp 9) 0, type := 0 },
                { dst := Option.some 11, g := Go.Am.QG.no, op := Go.Op.load 9 (Go.Operand.tmp 10), type := 9 },
                { dst := Option.some 12, g := Go.Am.QG.no,
                  op :=
                    Go.Op.call
                      { callee := Go.Callee.builtin Go.Builtin.len, args := { toList := [Go.Operand.tmp 11] },
                        argTypes := { toList := [9] } },
                  type := 3 },
                { dst := Option.some 13, g := Go.Am.QG.no,
                  op := Go.Op.binOp Go.BinOp.geq 3 (Go.Operand.tmp 7) (Go.Operand.tmp 12) 3, type := 4 },
                { dst := Option.some 14, g := Go.Am.QG.no, op := Go.Op.move (Go.Operand.tmp 13), type := 4 },
                { dst := Option.some 15, g := Go.Am.QG.at 14 Bool.false, op := Go.Op.move (Go.Operand.tmp 0),
                  type := 80 },
                { dst := Option.some 16, g := Go.Am.QG.at 14 Bool.false, op := Go.Op.nilCheck (Go.Operand.tmp 15),
                  type := 0 },
                { dst := Option.some 17, g := Go.Am.QG.at 14 Bool.false, op := Go.Op.fieldAddr 82 (Go.Operand.tmp 16) 3,
                  type := 0 },
                { dst := Option.some 18, g := Go.Am.QG.at 14 Bool.false, op := Go.Op.load 3 (Go.Operand.tmp 17),
                  type := 3 },
                { dst := Option.some 19, g := Go.Am.QG.at 14 Bool.false,
                  op :=
                    Go.Op.binOp Go.BinOp.neq 3 (Go.Operand.tmp 18)
                      (Go.Operand.const (Go.Value.int Go.IntKind.i64 (Int.ofNat 0))) 3,
                  type := 4 },
                { dst := Option.some 20, g := Go.Am.QG.no,
                  op := Go.Op.pick (Go.Operand.tmp 14) (Go.Operand.const (Go.Value.bool Bool.true)) (Go.Operand.tmp 19),
                  type := 4 }]).seq
          (Go.Am.QC.cond (Go.Operand.tmp 20)
            ((Go.Am.QC.plain
                  [{ dst := Option.some 2, g := Go.Am.QG.no,
                      op := Go.Op.assign (Go.Operand.const (Go.Value.int Go.IntKind.u8 (Int.ofNat 0))), type := 5 },
                    { dst := Option.some 3, g := Go.Am.QG.no,
                      op := Go.Op.assign (Go.Operand.const (Go.Value.bool Bool.false)), type := 4 }]).seq
              Go.Am.QC.ret)
            Go.Am.QC.skip)).seq
      ((Go.Am.QC.plain
            [{ dst := Option.some 21, g := Go.Am.QG.no, op := Go.Op.move (Go.Operand.tmp 0), type := 80 },
              { dst := Option.some 22, g := Go.Am.QG.no, op := Go.Op.nilCheck (Go.Operand.tmp 21), type := 0 },
              { dst := Option.some 23, g := Go.Am.QG.no, op := Go.Op.fieldAddr 82 (Go.Operand.tmp 22) 0, type := 0 },
              { dst := Option.some 24, g := Go.Am.QG.no, op := Go.Op.load 9 (Go.Operand.tmp 23), type := 9 },
              { dst := Option.some 25, g := Go.Am.QG.no, op := Go.Op.move (Go.Operand.tmp 0), type := 80 },
              { dst := Option.some 26, g := Go.Am.QG.no, op := Go.Op.nilCheck (Go.Operand.tmp 25), type := 0 },
              { dst := Option.some 27, g := Go.Am.QG.no, op := Go.Op.fieldAddr 82 (Go.Operand.tmp 26) 1, type := 0 },
              { dst := Option.some 28, g := Go.Am.QG.no, op := Go.Op.load 3 (Go.Operand.tmp 27), type := 3 },
              { dst := Option.some 29, g := Go.Am.QG.no, op := Go.Op.index 9 (Go.Operand.tmp 24) (Go.Operand.tmp 28),
                type := 5 },
              { dst := Option.some 2, g := Go.Am.QG.no, op := Go.Op.assign (Go.Operand.tmp 29), type := 5 },
              { dst := Option.some 3, g := Go.Am.QG.no, op := Go.Op.assign (Go.Operand.const (Go.Value.bool Bool.true)),
                type := 4 }]).seq
        Go.Am.QC.ret)))
theorem q69_ok : bodyComp Tryd.prog 69 = some q69 := by kernel_rfl
noncomputable def q82 : QC :=
  ((Go.Am.QC.plain [{ dst := Option.some 2, g := Go.Am.QG.no, op := Go.Op.alloc 28, type := 0 }]).seq
    ((Go.Am.QC.plain
          [{ dst := Option.some 6, g := Go.Am.QG.no, op := Go.Op.move (Go.Operand.tmp 0), type := 80 },
            { dst := Option.some 7, g := Go.Am.QG.no,
              op :=
                Go.Op.call
                  { callee := Go.Callee.value (Go.Operand.func 88), args := { toList := [Go.Operand.tmp 6] },
                    argTypes := { toList := [80] } },
              type := 28 },
            { dst := Option.some 3, g := Go.Am.QG.no, op := Go.Op.alloc 28, type := 0 },
            { dst := Option.none, g := Go.Am.QG.no, op := Go.Op.store 28 (Go.Operand.tmp 3) (Go.Operand.tmp 7),
              type := 0 }]).seq
      (Go.Am.QC.block 0
        (Go.Am.QC.block 1
            ((Go.Am.QC.plain
                  [{ dst := Option.some 9, g := Go.Am.QG.no, op := Go.Op.move (Go.Operand.tmp 0), type := 80 },
                    { dst := Option.some 10, g := Go.Am.QG.no,
                      op :=
                        Go.Op.call
                          { callee := Go.Callee.value (Go.Operand.func 69), args := { toList := [Go.Operand.tmp 9] },
                            argTypes := { toList := [80] } },
                      type := 100 },
                    { dst := Option.some 8, g := Go.Am.QG.no, op := Go.Op.move (Go.Operand.tmp 10), type := 100 },
                    { dst := Option.some 11, g := Go.Am.QG.no, op := Go.Op.extract (Go.Operand.tmp 8) 0, type := 5 },
                    { dst := Option.some 12, g := Go.Am.QG.no, op := Go.Op.extract (Go.Operand.tmp 8) 1, type := 4 },
                    { dst := Option.some 4, g := Go.Am.QG.no, op := Go.Op.assign (Go.Operand.tmp 11), type := 5 },
                    { dst := Option.some 5, g := Go.Am.QG.no, op := Go.Op.assign (Go.Operand.tmp 12), type := 4 }]).seq
              (((Go.Am.QC.plain
                        [{ dst := Option.some 13, g := Go.Am.QG.no, op := Go.Op.move (Go.Operand.tmp 5), type := 4 },
                          { dst := Option.some 14, g := Go.Am.QG.no, op := Go.Op.unOp Go.UnOp.not 4 (Go.Operand.tmp 13),
                            type := 4 }]).seq
                    (Go.Am.QC.cond (Go.Operand.tmp 14)
                      ((Go.Am.QC.plain
                            [{ dst := Option.some 15, g := Go.Am.QG.no, op := Go.Op.load 28 (Go.Operand.tmp 3),
                                type := 28 },
                              { dst := Option.none, g := Go.Am.QG.no,
                                op := Go.Op.store 28 (Go.Operand.tmp 2) (Go.Operand.tmp 15), type := 0 }]).seq
                        Go.Am.QC.ret)
                      Go.Am.QC.skip)).seq
                (((Go.Am.QC.plain
                          [{ dst := Option.some 16, g := Go.Am.QG.no, op := Go.Op.move (Go.Operand.tmp 4),
                              type := 5 }]).seq
                      (Go.Am.QC.block 2
                        ((Go.Am.QC.plain
                              [{ dst := Option.some 19, g := Go.Am.QG.no,
                                  op :=
                                    Go.Op.binOp Go.BinOp.eql 5 (Go.Operand.tmp 16)
                                      (Go.Operand.const (Go.Value.int Go.IntKind.u8 (Int.ofNat 42))) 5,
                                  type := 4 },
                                { dst := Option.some 18, g := Go.Am.QG.no, op := Go.Op.assign (Go.Operand.tmp 19),
                                  type := 4 }]).seq
                          (Go.Am.QC.cond (Go.Operand.tmp 18)
                            (Go.Am.QC.plain
                              [{ dst := Option.some 20, g := Go.Am.QG.no, op := Go.Op.load 28 (Go.Operand.tmp 3),
                                  type := 28 },
                                { dst := Option.some 21, g := Go.Am.QG.no,
                                  op := Go.Op.buildSlice 26 1 { toList := [(0, Go.Operand.tmp 20)] }, type := 26 },
                                { dst := Option.some 22, g := Go.Am.QG.no,
                                  op :=
                                    Go.Op.build 28
                                      {
                                        toList :=
                                          [(0, Go.Operand.const (Go.Value.int Go.IntKind.i64 (Int.ofNat 6))),
                                            (4, Go.Operand.tmp 21)] },
                                  type := 28 },
                                { dst := Option.none, g := Go.Am.QG.no,
                                  op := Go.Op.store 28 (Go.Operand.tmp 3) (Go.Operand.tmp 22), type := 0 }])
                            ((Go.Am.QC.plain
                                  [{ dst := Option.some 24, g := Go.Am.QG.no,
                                      op :=
                                        Go.Op.binOp Go.BinOp.eql 5 (Go.Operand.tmp 16)
                                          (Go.Operand.const (Go.Value.int Go.IntKind.u8 (Int.ofNat 43))) 5,
                                      type := 4 },
                                    { dst := Option.some 23, g := Go.Am.QG.no, op := Go.Op.assign (Go.Operand.tmp 24),
                                      type := 4 }]).seq
                              (Go.Am.QC.cond (Go.Operand.tmp 23)
                                (Go.Am.QC.plain
                                  [{ dst := Option.some 25, g := Go.Am.QG.no, op := Go.Op.load 28 (Go.Operand.tmp 3),
                                      type := 28 },
                                    { dst := Option.some 26, g := Go.Am.QG.no,
                                      op := Go.Op.buildSlice 26 1 { toList := [(0, Go.Operand.tmp 25)] }, type := 26 },
                                    { dst := Option.some 27, g := Go.Am.QG.no,
                                      op :=
                                        Go.Op.build 28
                                          {
                                            toList :=
                                              [(0, Go.Operand.const (Go.Value.int Go.IntKind.i64 (Int.ofNat 7))),
                                                (4, Go.Operand.tmp 26)] },
                                      type := 28 },
                                    { dst := Option.none, g := Go.Am.QG.no,
                                      op := Go.Op.store 28 (Go.Operand.tmp 3) (Go.Operand.tmp 27), type := 0 }])
                                ((Go.Am.QC.plain
                                      [{ dst := Option.some 29, g := Go.Am.QG.no,
                                          op :=
                                            Go.Op.binOp Go.BinOp.eql 5 (Go.Operand.tmp 16)
                                              (Go.Operand.const (Go.Value.int Go.IntKind.u8 (Int.ofNat 63))) 5,
                                          type := 4 },
                                        { dst := Option.some 28, g := Go.Am.QG.no,
                                          op := Go.Op.assign (Go.Operand.tmp 29), type := 4 }]).seq
                                  (Go.Am.QC.cond (Go.Operand.tmp 28)
                                    (Go.Am.QC.plain
                                      [{ dst := Option.some 30, g := Go.Am.QG.no,
                                          op := Go.Op.load 28 (Go.Operand.tmp 3), type := 28 },
                                        { dst := Option.some 31, g := Go.Am.QG.no,
                                          op := Go.Op.buildSlice 26 1 { toList := [(0, Go.Operand.tmp 30)] },
                                          type := 26 },
                                        { dst := Option.some 32, g := Go.Am.QG.no,
                                          op :=
                                            Go.Op.build 28
                                              {
                                                toList :=
                                                  [(0, Go.Operand.const (Go.Value.int Go.IntKind.i64 (Int.ofNat 8))),
                                                    (4, Go.Operand.tmp 31)] },
                                          type := 28 },
                                        { dst := Option.none, g := Go.Am.QG.no,
                                          op := Go.Op.store 28 (Go.Operand.tmp 3) (Go.Operand.tmp 32), type := 0 }])
                                    ((Go.Am.QC.plain
                                          [{ dst := Option.some 34, g := Go.Am.QG.no,
                                              op :=
                                                Go.Op.binOp Go.BinOp.eql 5 (Go.Operand.tmp 16)
                                                  (Go.Operand.const (Go.Value.int Go.IntKind.u8 (Int.ofNat 123))) 5,
                                              type := 4 },
                                            { dst := Option.some 33, g := Go.Am.QG.no,
                                              op := Go.Op.assign (Go.Operand.tmp 34), type := 4 }]).seq
                                      (Go.Am.QC.cond (Go.Operand.tmp 33)
                                        ((Go.Am.QC.plain
                                              [{ dst := Option.some 35, g := Go.Am.QG.no,
                                                  op := Go.Op.move (Go.Operand.tmp 0), type := 80 },
                                                { dst := Option.some 36, g := Go.Am.QG.no,
                                                  op := Go.Op.nilCheck (Go.Operand.tmp 35), type := 0 },
                                                { dst := Option.some 37, g := Go.Am.QG.no,
                                                  op := Go.Op.fieldAddr 82 (Go.Operand.tmp 36) 1, type := 0 },
                                                { dst := Option.some 38, g := Go.Am.QG.no,
                                                  op := Go.Op.load 3 (Go.Operand.tmp 37), type := 3 },
                                                { dst := Option.some 39, g := Go.Am.QG.no,
                                                  op :=
                                                    Go.Op.binOp Go.BinOp.add 3 (Go.Operand.tmp 38)
                                                      (Go.Operand.const (Go.Value.int Go.IntKind.i64 (Int.ofNat 1))) 3,
                                                  type := 3 },
                                                { dst := Option.some 40, g := Go.Am.QG.no,
                                                  op := Go.Op.nilCheck (Go.Operand.tmp 35), type := 0 },
                                                { dst := Option.some 41, g := Go.Am.QG.no,
                                                  op := Go.Op.fieldAddr 82 (Go.Operand.tmp 40) 1, type := 0 },
                                                { dst := Option.none, g := Go.Am.QG.no,
                                                  op := Go.Op.store 3 (Go.Operand.tmp 41) (Go.Operand.tmp 39),
                                                  type := 0 }]).seq
                                          ((Go.Am.QC.plain
                                                [{ dst := Option.some 42, g := Go.Am.QG.no,
                                                    op := Go.Op.move (Go.Operand.tmp 0), type := 80 },
                                                  { dst := Option.some 43, g := Go.Am.QG.no,
                                                    op := Go.Op.load 28 (Go.Operand.tmp 3), type := 28 },
                                                  { dst := Option.some 44, g := Go.Am.QG.no,
                                                    op :=
                                                      Go.Op.call
                                                        { callee := Go.Callee.value (Go.Operand.func 89),
                                                          args := { toList := [Go.Operand.tmp 42, Go.Operand.tmp 43] },
                                                          argTypes := { toList := [80, 28] } },
                                                    type := 28 },
                                                  { dst := Option.none, g := Go.Am.QG.no,
                                                    op := Go.Op.store 28 (Go.Operand.tmp 3) (Go.Operand.tmp 44),
                                                    type := 0 }]).seq
                                            (Go.Am.QC.exit 1)))
                                        ((Go.Am.QC.plain
                                              [{ dst := Option.some 17, g := Go.Am.QG.no,
                                                  op := Go.Op.load 28 (Go.Operand.tmp 3), type := 28 },
                                                { dst := Option.none, g := Go.Am.QG.no,
                                                  op := Go.Op.store 28 (Go.Operand.tmp 2) (Go.Operand.tmp 17),
                                                  type := 0 }]).seq
                                          Go.Am.QC.ret))))))))))).seq
                  (Go.Am.QC.plain
                    [{ dst := Option.some 45, g := Go.Am.QG.no, op := Go.Op.move (Go.Operand.tmp 0), type := 80 },
                      { dst := Option.some 46, g := Go.Am.QG.no, op := Go.Op.nilCheck (Go.Operand.tmp 45), type := 0 },
                      { dst := Option.some 47, g := Go.Am.QG.no, op := Go.Op.fieldAddr 82 (Go.Operand.tmp 46) 1,
                        type := 0 },
                      { dst := Option.some 48, g := Go.Am.QG.no, op := Go.Op.load 3 (Go.Operand.tmp 47), type := 3 },
                      { dst := Option.some 49, g := Go.Am.QG.no,
                        op :=
                          Go.Op.binOp Go.BinOp.add 3 (Go.Operand.tmp 48)
                            (Go.Operand.const (Go.Value.int Go.IntKind.i64 (Int.ofNat 1))) 3,
                        type := 3 },
                      { dst := Option.some 50, g := Go.Am.QG.no, op := Go.Op.nilCheck (Go.Operand.tmp 45), type := 0 },
                      { dst := Option.some 51, g := Go.Am.QG.no, op := Go.Op.fieldAddr 82 (Go.Operand.tmp 50) 1,
                        type := 0 },
                      { dst := Option.none, g := Go.Am.QG.no,
                        op := Go.Op.store 3 (Go.Operand.tmp 51) (Go.Operand.tmp 49), type := 0 }]))))).loop)))
theorem q82_ok : bodyComp Tryd.prog 82 = some q82 := by kernel_rfl
noncomputable def q88 : QC :=
  ((Go.Am.QC.plain [{ dst := Option.some 2, g := Go.Am.QG.no, op := Go.Op.alloc 28, type := 0 }]).seq
    ((Go.Am.QC.plain
          [{ dst := Option.some 6, g := Go.Am.QG.no, op := Go.Op.move (Go.Operand.tmp 0), type := 80 },
            { dst := Option.some 7, g := Go.Am.QG.no,
              op :=
                Go.Op.call
                  { callee := Go.Callee.value (Go.Operand.func 69), args := { toList := [Go.Operand.tmp 6] },
                    argTypes := { toList := [80] } },
              type := 100 },
            { dst := Option.some 5, g := Go.Am.QG.no, op := Go.Op.move (Go.Operand.tmp 7), type := 100 },
            { dst := Option.some 8, g := Go.Am.QG.no, op := Go.Op.extract (Go.Operand.tmp 5) 0, type := 5 },
            { dst := Option.some 9, g := Go.Am.QG.no, op := Go.Op.extract (Go.Operand.tmp 5) 1, type := 4 },
            { dst := Option.some 3, g := Go.Am.QG.no, op := Go.Op.assign (Go.Operand.tmp 8), type := 5 },
            { dst := Option.some 4, g := Go.Am.QG.no, op := Go.Op.assign (Go.Operand.tmp 9), type := 4 }]).seq
      (((Go.Am.QC.plain
                [{ dst := Option.some 10, g := Go.Am.QG.no, op := Go.Op.move (Go.Operand.tmp 4), type := 4 },
                  { dst := Option.some 11, g := Go.Am.QG.no, op := Go.Op.unOp Go.UnOp.not 4 (Go.Operand.tmp 10),
                    type := 4 }]).seq
            (Go.Am.QC.cond (Go.Operand.tmp 11)
              ((Go.Am.QC.plain
                    [{ dst := Option.some 12, g := Go.Am.QG.no, op := Go.Op.move (Go.Operand.tmp 0), type := 80 },
                      { dst := Option.some 13, g := Go.Am.QG.no,
                        op :=
                          Go.Op.call
                            { callee := Go.Callee.value (Go.Operand.func 56),
                              args :=
                                {
                                  toList :=
                                    [Go.Operand.tmp 12, Go.Operand.const (Go.Value.int Go.IntKind.i64 (Int.ofNat 3))] },
                              argTypes := { toList := [80, 3] } },
                        type := 28 },
                      { dst := Option.none, g := Go.Am.QG.no,
                        op := Go.Op.store 28 (Go.Operand.tmp 2) (Go.Operand.tmp 13), type := 0 }]).seq
                Go.Am.QC.ret)
              Go.Am.QC.skip)).seq
        (((Go.Am.QC.plain
                  [{ dst := Option.some 14, g := Go.Am.QG.no, op := Go.Op.move (Go.Operand.tmp 3), type := 5 },
                    { dst := Option.some 15, g := Go.Am.QG.no,
                      op :=
                        Go.Op.binOp Go.BinOp.eql 5 (Go.Operand.tmp 14)
                          (Go.Operand.const (Go.Value.int Go.IntKind.u8 (Int.ofNat 40))) 5,
                      type := 4 },
                    { dst := Option.some 16, g := Go.Am.QG.no, op := Go.Op.move (Go.Operand.tmp 15), type := 4 },
                    { dst := Option.some 17, g := Go.Am.QG.at 16 Bool.true, op := Go.Op.move (Go.Operand.tmp 0),
                      type := 80 },
                    { dst := Option.some 18, g := Go.Am.QG.at 16 Bool.true, op := Go.Op.nilCheck (Go.Operand.tmp 17),
                      type := 0 },
                    { dst := Option.some 19, g := Go.Am.QG.at 16 Bool.true,
                      op := Go.Op.fieldAddr 82 (Go.Operand.tmp 18) 2, type := 0 },
                    { dst := Option.some 20, g := Go.Am.QG.at 16 Bool.true, op := Go.Op.load 3 (Go.Operand.tmp 19),
                      type := 3 },
                    { dst := Option.some 21, g := Go.Am.QG.at 16 Bool.true,
                      op :=
                        Go.Op.binOp Go.BinOp.geq 3 (Go.Operand.tmp 20)
                          (Go.Operand.const (Go.Value.int Go.IntKind.i64 (Int.ofNat 30))) 3,
                      type := 4 },
                    { dst := Option.some 22, g := Go.Am.QG.no,
                      op :=
                        Go.Op.pick (Go.Operand.tmp 16) (Go.Operand.tmp 21)
                          (Go.Operand.const (Go.Value.bool Bool.false)),
                      type := 4 }]).seq
              (Go.Am.QC.cond (Go.Operand.tmp 22)
                ((Go.Am.QC.plain
                      [{ dst := Option.some 23, g := Go.Am.QG.no, op := Go.Op.move (Go.Operand.tmp 0), type := 80 },
                        { dst := Option.some 24, g := Go.Am.QG.no,
                          op :=
                            Go.Op.call
                              { callee := Go.Callee.value (Go.Operand.func 56),
                                args :=
                                  {
                                    toList :=
                                      [Go.Operand.tmp 23,
                                        Go.Operand.const (Go.Value.int Go.IntKind.i64 (Int.ofNat 4))] },
                                argTypes := { toList := [80, 3] } },
                          type := 28 },
                        { dst := Option.none, g := Go.Am.QG.no,
                          op := Go.Op.store 28 (Go.Operand.tmp 2) (Go.Operand.tmp 24), type := 0 }]).seq
                  Go.Am.QC.ret)
                Go.Am.QC.skip)).seq
          ((Go.Am.QC.plain
                [{ dst := Option.some 25, g := Go.Am.QG.no, op := Go.Op.move (Go.Operand.tmp 0), type := 80 },
                  { dst := Option.some 26, g := Go.Am.QG.no, op := Go.Op.nilCheck (Go.Operand.tmp 25), type := 0 },
                  { dst := Option.some 27, g := Go.Am.QG.no, op := Go.Op.fieldAddr 82 (Go.Operand.tmp 26) 1,
                    type := 0 },
                  { dst := Option.some 28, g := Go.Am.QG.no, op := Go.Op.load 3 (Go.Operand.tmp 27), type := 3 },
                  { dst := Option.some 29, g := Go.Am.QG.no,
                    op :=
                      Go.Op.binOp Go.BinOp.add 3 (Go.Operand.tmp 28)
                        (Go.Operand.const (Go.Value.int Go.IntKind.i64 (Int.ofNat 1))) 3,
                    type := 3 },
                  { dst := Option.some 30, g := Go.Am.QG.no, op := Go.Op.nilCheck (Go.Operand.tmp 25), type := 0 },
                  { dst := Option.some 31, g := Go.Am.QG.no, op := Go.Op.fieldAddr 82 (Go.Operand.tmp 30) 1,
                    type := 0 },
                  { dst := Option.none, g := Go.Am.QG.no, op := Go.Op.store 3 (Go.Operand.tmp 31) (Go.Operand.tmp 29),
                    type := 0 }]).seq
            ((Go.Am.QC.block 0
                  ((Go.Am.QC.plain
                        [{ dst := Option.some 33, g := Go.Am.QG.no, op := Go.Op.move (Go.Operand.tmp 3), type := 5 },
                          { dst := Option.some 34, g := Go.Am.QG.no,
                            op :=
                              Go.Op.call
                                { callee := Go.Callee.value (Go.Operand.func 92),
                                  args := { toList := [Go.Operand.tmp 33] }, argTypes := { toList := [5] } },
                            type := 3 },
                          { dst := Option.some 35, g := Go.Am.QG.no,
                            op :=
                              Go.Op.binOp Go.BinOp.geq 3 (Go.Operand.tmp 34)
                                (Go.Operand.const (Go.Value.int Go.IntKind.i64 (Int.ofNat 0))) 3,
                            type := 4 },
                          { dst := Option.some 32, g := Go.Am.QG.no, op := Go.Op.assign (Go.Operand.tmp 35),
                            type := 4 }]).seq
                    (Go.Am.QC.cond (Go.Operand.tmp 32)
                      ((Go.Am.QC.plain
                            [{ dst := Option.some 36, g := Go.Am.QG.no, op := Go.Op.move (Go.Operand.tmp 3),
                                type := 5 },
                              { dst := Option.some 37, g := Go.Am.QG.no,
                                op :=
                                  Go.Op.call
                                    { callee := Go.Callee.value (Go.Operand.func 92),
                                      args := { toList := [Go.Operand.tmp 36] }, argTypes := { toList := [5] } },
                                type := 3 },
                              { dst := Option.some 38, g := Go.Am.QG.no, op := Go.Op.convert 3 50 (Go.Operand.tmp 37),
                                type := 50 },
                              { dst := Option.some 39, g := Go.Am.QG.no,
                                op :=
                                  Go.Op.binOp Go.BinOp.shl 3
                                    (Go.Operand.const (Go.Value.int Go.IntKind.i64 (Int.ofNat 1))) (Go.Operand.tmp 38)
                                    50,
                                type := 3 },
                              { dst := Option.some 40, g := Go.Am.QG.no,
                                op :=
                                  Go.Op.build 28
                                    {
                                      toList :=
                                        [(0, Go.Operand.const (Go.Value.int Go.IntKind.i64 (Int.ofNat 1))),
                                          (1, Go.Operand.tmp 39)] },
                                type := 28 },
                              { dst := Option.none, g := Go.Am.QG.no,
                                op := Go.Op.store 28 (Go.Operand.tmp 2) (Go.Operand.tmp 40), type := 0 }]).seq
                        Go.Am.QC.ret)
                      ((Go.Am.QC.plain
                            [{ dst := Option.some 42, g := Go.Am.QG.no, op := Go.Op.move (Go.Operand.tmp 3),
                                type := 5 },
                              { dst := Option.some 43, g := Go.Am.QG.no,
                                op :=
                                  Go.Op.binOp Go.BinOp.eql 5 (Go.Operand.tmp 42)
                                    (Go.Operand.const (Go.Value.int Go.IntKind.u8 (Int.ofNat 46))) 5,
                                type := 4 },
                              { dst := Option.some 41, g := Go.Am.QG.no, op := Go.Op.assign (Go.Operand.tmp 43),
                                type := 4 }]).seq
                        (Go.Am.QC.cond (Go.Operand.tmp 41)
                          ((Go.Am.QC.plain
                                [{ dst := Option.some 44, g := Go.Am.QG.no,
                                    op :=
                                      Go.Op.build 28
                                        {
                                          toList :=
                                            [(0, Go.Operand.const (Go.Value.int Go.IntKind.i64 (Int.ofNat 1))),
                                              (1, Go.Operand.const (Go.Value.int Go.IntKind.i64 (Int.ofNat 31)))] },
                                    type := 28 },
                                  { dst := Option.none, g := Go.Am.QG.no,
                                    op := Go.Op.store 28 (Go.Operand.tmp 2) (Go.Operand.tmp 44), type := 0 }]).seq
                            Go.Am.QC.ret)
                          ((Go.Am.QC.plain
                                [{ dst := Option.some 46, g := Go.Am.QG.no, op := Go.Op.move (Go.Operand.tmp 3),
                                    type := 5 },
                                  { dst := Option.some 47, g := Go.Am.QG.no,
                                    op :=
                                      Go.Op.binOp Go.BinOp.eql 5 (Go.Operand.tmp 46)
                                        (Go.Operand.const (Go.Value.int Go.IntKind.u8 (Int.ofNat 48))) 5,
                                    type := 4 },
                                  { dst := Option.some 45, g := Go.Am.QG.no, op := Go.Op.assign (Go.Operand.tmp 47),
                                    type := 4 }]).seq
                            (Go.Am.QC.cond (Go.Operand.tmp 45)
                              ((Go.Am.QC.plain
                                    [{ dst := Option.some 48, g := Go.Am.QG.no,
                                        op :=
                                          Go.Op.build 28
                                            {
                                              toList :=
                                                [(0, Go.Operand.const (Go.Value.int Go.IntKind.i64 (Int.ofNat 2)))] },
                                        type := 28 },
                                      { dst := Option.none, g := Go.Am.QG.no,
                                        op := Go.Op.store 28 (Go.Operand.tmp 2) (Go.Operand.tmp 48), type := 0 }]).seq
                                Go.Am.QC.ret)
                              ((Go.Am.QC.plain
                                    [{ dst := Option.some 50, g := Go.Am.QG.no, op := Go.Op.move (Go.Operand.tmp 3),
                                        type := 5 },
                                      { dst := Option.some 51, g := Go.Am.QG.no,
                                        op :=
                                          Go.Op.binOp Go.BinOp.eql 5 (Go.Operand.tmp 50)
                                            (Go.Operand.const (Go.Value.int Go.IntKind.u8 (Int.ofNat 95))) 5,
                                        type := 4 },
                                      { dst := Option.some 49, g := Go.Am.QG.no, op := Go.Op.assign (Go.Operand.tmp 51),
                                        type := 4 }]).seq
                                (Go.Am.QC.cond (Go.Operand.tmp 49)
                                  ((Go.Am.QC.plain
                                        [{ dst := Option.some 52, g := Go.Am.QG.no,
                                            op :=
                                              Go.Op.build 28
                                                {
                                                  toList :=
                                                    [(0,
                                                        Go.Operand.const
                                                          (Go.Value.int Go.IntKind.i64 (Int.ofNat 3)))] },
                                            type := 28 },
                                          { dst := Option.none, g := Go.Am.QG.no,
                                            op := Go.Op.store 28 (Go.Operand.tmp 2) (Go.Operand.tmp 52),
                                            type := 0 }]).seq
                                    Go.Am.QC.ret)
                                  ((Go.Am.QC.plain
                                        [{ dst := Option.some 54, g := Go.Am.QG.no, op := Go.Op.move (Go.Operand.tmp 3),
                                            type := 5 },
                                          { dst := Option.some 55, g := Go.Am.QG.no,
                                            op :=
                                              Go.Op.binOp Go.BinOp.eql 5 (Go.Operand.tmp 54)
                                                (Go.Operand.const (Go.Value.int Go.IntKind.u8 (Int.ofNat 91))) 5,
                                            type := 4 },
                                          { dst := Option.some 53, g := Go.Am.QG.no,
                                            op := Go.Op.assign (Go.Operand.tmp 55), type := 4 }]).seq
                                    (Go.Am.QC.cond (Go.Operand.tmp 53)
                                      ((Go.Am.QC.plain
                                            [{ dst := Option.some 56, g := Go.Am.QG.no,
                                                op := Go.Op.move (Go.Operand.tmp 0), type := 80 },
                                              { dst := Option.some 57, g := Go.Am.QG.no,
                                                op :=
                                                  Go.Op.call
                                                    { callee := Go.Callee.value (Go.Operand.func 93),
                                                      args := { toList := [Go.Operand.tmp 56] },
                                                      argTypes := { toList := [80] } },
                                                type := 28 },
                                              { dst := Option.none, g := Go.Am.QG.no,
                                                op := Go.Op.store 28 (Go.Operand.tmp 2) (Go.Operand.tmp 57),
                                                type := 0 }]).seq
                                        Go.Am.QC.ret)
                                      ((Go.Am.QC.plain
                                            [{ dst := Option.some 59, g := Go.Am.QG.no,
                                                op := Go.Op.move (Go.Operand.tmp 3), type := 5 },
                                              { dst := Option.some 60, g := Go.Am.QG.no,
                                                op :=
                                                  Go.Op.binOp Go.BinOp.eql 5 (Go.Operand.tmp 59)
                                                    (Go.Operand.const (Go.Value.int Go.IntKind.u8 (Int.ofNat 40))) 5,
                                                type := 4 },
                                              { dst := Option.some 58, g := Go.Am.QG.no,
                                                op := Go.Op.assign (Go.Operand.tmp 60), type := 4 }]).seq
                                        (Go.Am.QC.cond (Go.Operand.tmp 58)
                                          ((Go.Am.QC.plain
                                                [{ dst := Option.some 61, g := Go.Am.QG.no,
                                                    op := Go.Op.move (Go.Operand.tmp 0), type := 80 },
                                                  { dst := Option.some 62, g := Go.Am.QG.no,
                                                    op :=
                                                      Go.Op.call
                                                        { callee := Go.Callee.value (Go.Operand.func 94),
                                                          args := { toList := [Go.Operand.tmp 61] },
                                                          argTypes := { toList := [80] } },
                                                    type := 28 },
                                                  { dst := Option.none, g := Go.Am.QG.no,
                                                    op := Go.Op.store 28 (Go.Operand.tmp 2) (Go.Operand.tmp 62),
                                                    type := 0 }]).seq
                                            Go.Am.QC.ret)
                                          Go.Am.QC.skip))))))))))))).seq
              ((Go.Am.QC.plain
                    [{ dst := Option.some 63, g := Go.Am.QG.no, op := Go.Op.move (Go.Operand.tmp 0), type := 80 },
                      { dst := Option.some 64, g := Go.Am.QG.no, op := Go.Op.nilCheck (Go.Operand.tmp 63), type := 0 },
                      { dst := Option.some 65, g := Go.Am.QG.no, op := Go.Op.fieldAddr 82 (Go.Operand.tmp 64) 1,
                        type := 0 },
                      { dst := Option.some 66, g := Go.Am.QG.no, op := Go.Op.load 3 (Go.Operand.tmp 65), type := 3 },
                      { dst := Option.some 67, g := Go.Am.QG.no,
                        op :=
                          Go.Op.binOp Go.BinOp.sub 3 (Go.Operand.tmp 66)
                            (Go.Operand.const (Go.Value.int Go.IntKind.i64 (Int.ofNat 1))) 3,
                        type := 3 },
                      { dst := Option.some 68, g := Go.Am.QG.no, op := Go.Op.nilCheck (Go.Operand.tmp 63), type := 0 },
                      { dst := Option.some 69, g := Go.Am.QG.no, op := Go.Op.fieldAddr 82 (Go.Operand.tmp 68) 1,
                        type := 0 },
                      { dst := Option.none, g := Go.Am.QG.no,
                        op := Go.Op.store 3 (Go.Operand.tmp 69) (Go.Operand.tmp 67), type := 0 }]).seq
                ((Go.Am.QC.plain
                      [{ dst := Option.some 70, g := Go.Am.QG.no, op := Go.Op.move (Go.Operand.tmp 0), type := 80 },
                        { dst := Option.some 71, g := Go.Am.QG.no,
                          op :=
                            Go.Op.call
                              { callee := Go.Callee.value (Go.Operand.func 56),
                                args :=
                                  {
                                    toList :=
                                      [Go.Operand.tmp 70,
                                        Go.Operand.const (Go.Value.int Go.IntKind.i64 (Int.ofNat 3))] },
                                argTypes := { toList := [80, 3] } },
                          type := 28 },
                        { dst := Option.none, g := Go.Am.QG.no,
                          op := Go.Op.store 28 (Go.Operand.tmp 2) (Go.Operand.tmp 71), type := 0 }]).seq
                  Go.Am.QC.ret))))))))
theorem q88_ok : bodyComp Tryd.prog 88 = some q88 := by kernel_rfl
noncomputable def q89 : QC :=
  ((Go.Am.QC.plain
        [{ dst := Option.some 3, g := Go.Am.QG.no, op := Go.Op.box 28 (Go.Operand.tmp 1), type := 0 },
          { dst := Option.some 4, g := Go.Am.QG.no, op := Go.Op.alloc 28, type := 0 }]).seq
    ((Go.Am.QC.plain
          [{ dst := Option.some 10, g := Go.Am.QG.no, op := Go.Op.move (Go.Operand.tmp 0), type := 80 },
            { dst := Option.some 11, g := Go.Am.QG.no, op := Go.Op.nilCheck (Go.Operand.tmp 10), type := 0 },
            { dst := Option.some 12, g := Go.Am.QG.no, op := Go.Op.fieldAddr 82 (Go.Operand.tmp 11) 1, type := 0 },
            { dst := Option.some 13, g := Go.Am.QG.no, op := Go.Op.load 3 (Go.Operand.tmp 12), type := 3 },
            { dst := Option.some 14, g := Go.Am.QG.no,
              op :=
                Go.Op.binOp Go.BinOp.sub 3 (Go.Operand.tmp 13)
                  (Go.Operand.const (Go.Value.int Go.IntKind.i64 (Int.ofNat 1))) 3,
              type := 3 },
            { dst := Option.some 5, g := Go.Am.QG.no, op := Go.Op.assign (Go.Operand.tmp 14), type := 3 }]).seq
      ((Go.Am.QC.plain [{ dst := Option.some 6, g := Go.Am.QG.no, op := Go.Op.alloc 124, type := 0 }]).seq
        (((Go.Am.QC.plain
                  [{ dst := Option.some 7, g := Go.Am.QG.no,
                      op := Go.Op.assign (Go.Operand.const (Go.Value.int Go.IntKind.i64 (Int.ofNat 0))),
                      type := 3 }]).seq
              (Go.Am.QC.block 0
                (((Go.Am.QC.plain
                            [{ dst := Option.some 15, g := Go.Am.QG.no, op := Go.Op.move (Go.Operand.tmp 7),
                                type := 3 },
                              { dst := Option.some 16, g := Go.Am.QG.no,
                                op :=
                                  Go.Op.binOp Go.BinOp.lss 3 (Go.Operand.tmp 15)
                                    (Go.Operand.const (Go.Value.int Go.IntKind.i64 (Int.ofNat 2))) 3,
                                type := 4 }]).seq
                        (Go.Am.QC.cond (Go.Operand.tmp 16) Go.Am.QC.skip (Go.Am.QC.exit 0))).seq
                    ((Go.Am.QC.block 1
                          ((Go.Am.QC.plain
                                [{ dst := Option.some 20, g := Go.Am.QG.no, op := Go.Op.move (Go.Operand.tmp 0),
                                    type := 80 },
                                  { dst := Option.some 21, g := Go.Am.QG.no,
                                    op :=
                                      Go.Op.call
                                        { callee := Go.Callee.value (Go.Operand.func 69),
                                          args := { toList := [Go.Operand.tmp 20] }, argTypes := { toList := [80] } },
                                    type := 100 },
                                  { dst := Option.some 19, g := Go.Am.QG.no, op := Go.Op.move (Go.Operand.tmp 21),
                                    type := 100 },
                                  { dst := Option.some 22, g := Go.Am.QG.no, op := Go.Op.extract (Go.Operand.tmp 19) 0,
                                    type := 5 },
                                  { dst := Option.some 23, g := Go.Am.QG.no, op := Go.Op.extract (Go.Operand.tmp 19) 1,
                                    type := 4 },
                                  { dst := Option.some 8, g := Go.Am.QG.no, op := Go.Op.assign (Go.Operand.tmp 22),
                                    type := 5 },
                                  { dst := Option.some 9, g := Go.Am.QG.no, op := Go.Op.assign (Go.Operand.tmp 23),
                                    type := 4 }]).seq
                            (((Go.Am.QC.plain
                                      [{ dst := Option.some 24, g := Go.Am.QG.no, op := Go.Op.move (Go.Operand.tmp 9),
                                          type := 4 },
                                        { dst := Option.some 25, g := Go.Am.QG.no,
                                          op := Go.Op.unOp Go.UnOp.not 4 (Go.Operand.tmp 24), type := 4 },
                                        { dst := Option.some 26, g := Go.Am.QG.no, op := Go.Op.move (Go.Operand.tmp 25),
                                          type := 4 },
                                        { dst := Option.some 27, g := Go.Am.QG.at 26 Bool.false,
                                          op := Go.Op.move (Go.Operand.tmp 8), type := 5 },
                                        { dst := Option.some 28, g := Go.Am.QG.at 26 Bool.false,
                                          op :=
                                            Go.Op.binOp Go.BinOp.lss 5 (Go.Operand.tmp 27)
                                              (Go.Operand.const (Go.Value.int Go.IntKind.u8 (Int.ofNat 48))) 5,
                                          type := 4 },
                                        { dst := Option.some 29, g := Go.Am.QG.no,
                                          op :=
                                            Go.Op.pick (Go.Operand.tmp 26) (Go.Operand.const (Go.Value.bool Bool.true))
                                              (Go.Operand.tmp 28),
                                          type := 4 },
                                        { dst := Option.some 30, g := Go.Am.QG.no, op := Go.Op.move (Go.Operand.tmp 29),
                                          type := 4 },
                                        { dst := Option.some 31, g := Go.Am.QG.at 30 Bool.false,
                                          op := Go.Op.move (Go.Operand.tmp 8), type := 5 },
                                        { dst := Option.some 32, g := Go.Am.QG.at 30 Bool.false,
                                          op :=
                                            Go.Op.binOp Go.BinOp.gtr 5 (Go.Operand.tmp 31)
                                              (Go.Operand.const (Go.Value.int Go.IntKind.u8 (Int.ofNat 57))) 5,
                                          type := 4 },
                                        { dst := Option.some 33, g := Go.Am.QG.no,
                                          op :=
                                            Go.Op.pick (Go.Operand.tmp 30) (Go.Operand.const (Go.Value.bool Bool.true))
                                              (Go.Operand.tmp 32),
                                          type := 4 }]).seq
                                  (Go.Am.QC.cond (Go.Operand.tmp 33)
                                    (((Go.Am.QC.plain
                                              [{ dst := Option.some 34, g := Go.Am.QG.no,
                                                  op := Go.Op.move (Go.Operand.tmp 9), type := 4 }]).seq
                                          (Go.Am.QC.cond (Go.Operand.tmp 34)
                                            (Go.Am.QC.plain
                                              [{ dst := Option.some 35, g := Go.Am.QG.no,
                                                  op := Go.Op.move (Go.Operand.tmp 0), type := 80 },
                                                { dst := Option.some 36, g := Go.Am.QG.no,
                                                  op := Go.Op.move (Go.Operand.tmp 5), type := 3 },
                                                { dst := Option.some 37, g := Go.Am.QG.no,
                                                  op := Go.Op.nilCheck (Go.Operand.tmp 35), type := 0 },
                                                { dst := Option.some 38, g := Go.Am.QG.no,
                                                  op := Go.Op.fieldAddr 82 (Go.Operand.tmp 37) 1, type := 0 },
                                                { dst := Option.none, g := Go.Am.QG.no,
                                                  op := Go.Op.store 3 (Go.Operand.tmp 38) (Go.Operand.tmp 36),
                                                  type := 0 }])
                                            Go.Am.QC.skip)).seq
                                      ((Go.Am.QC.plain
                                            [{ dst := Option.some 39, g := Go.Am.QG.no,
                                                op := Go.Op.move (Go.Operand.tmp 0), type := 80 },
                                              { dst := Option.some 40, g := Go.Am.QG.no,
                                                op :=
                                                  Go.Op.call
                                                    { callee := Go.Callee.value (Go.Operand.func 56),
                                                      args :=
                                                        {
                                                          toList :=
                                                            [Go.Operand.tmp 39,
                                                              Go.Operand.const
                                                                (Go.Value.int Go.IntKind.i64 (Int.ofNat 3))] },
                                                      argTypes := { toList := [80, 3] } },
                                                type := 28 },
                                              { dst := Option.none, g := Go.Am.QG.no,
                                                op := Go.Op.store 28 (Go.Operand.tmp 4) (Go.Operand.tmp 40),
                                                type := 0 }]).seq
                                        Go.Am.QC.ret))
                                    Go.Am.QC.skip)).seq
                              ((Go.Am.QC.plain
                                    [{ dst := Option.some 41, g := Go.Am.QG.no, op := Go.Op.move (Go.Operand.tmp 7),
                                        type := 3 },
                                      { dst := Option.some 42, g := Go.Am.QG.no, op := Go.Op.move (Go.Operand.tmp 8),
                                        type := 5 },
                                      { dst := Option.some 43, g := Go.Am.QG.no,
                                        op :=
                                          Go.Op.binOp Go.BinOp.sub 5 (Go.Operand.tmp 42)
                                            (Go.Operand.const (Go.Value.int Go.IntKind.u8 (Int.ofNat 48))) 5,
                                        type := 5 },
                                      { dst := Option.some 44, g := Go.Am.QG.no,
                                        op := Go.Op.convert 5 3 (Go.Operand.tmp 43), type := 3 },
                                      { dst := Option.some 45, g := Go.Am.QG.no,
                                        op := Go.Op.indexAddr 124 (Go.Operand.tmp 6) (Go.Operand.tmp 41), type := 0 },
                                      { dst := Option.none, g := Go.Am.QG.no,
                                        op := Go.Op.store 3 (Go.Operand.tmp 45) (Go.Operand.tmp 44), type := 0 }]).seq
                                ((Go.Am.QC.plain
                                      [{ dst := Option.some 46, g := Go.Am.QG.no, op := Go.Op.move (Go.Operand.tmp 0),
                                          type := 80 },
                                        { dst := Option.some 47, g := Go.Am.QG.no,
                                          op := Go.Op.nilCheck (Go.Operand.tmp 46), type := 0 },
                                        { dst := Option.some 48, g := Go.Am.QG.no,
                                          op := Go.Op.fieldAddr 82 (Go.Operand.tmp 47) 1, type := 0 },
                                        { dst := Option.some 49, g := Go.Am.QG.no,
                                          op := Go.Op.load 3 (Go.Operand.tmp 48), type := 3 },
                                        { dst := Option.some 50, g := Go.Am.QG.no,
                                          op :=
                                            Go.Op.binOp Go.BinOp.add 3 (Go.Operand.tmp 49)
                                              (Go.Operand.const (Go.Value.int Go.IntKind.i64 (Int.ofNat 1))) 3,
                                          type := 3 },
                                        { dst := Option.some 51, g := Go.Am.QG.no,
                                          op := Go.Op.nilCheck (Go.Operand.tmp 46), type := 0 },
                                        { dst := Option.some 52, g := Go.Am.QG.no,
                                          op := Go.Op.fieldAddr 82 (Go.Operand.tmp 51) 1, type := 0 },
                                        { dst := Option.none, g := Go.Am.QG.no,
                                          op := Go.Op.store 3 (Go.Operand.tmp 52) (Go.Operand.tmp 50), type := 0 }]).seq
                                  ((Go.Am.QC.plain
                                        [{ dst := Option.some 54, g := Go.Am.QG.no, op := Go.Op.move (Go.Operand.tmp 0),
                                            type := 80 },
                                          { dst := Option.some 55, g := Go.Am.QG.no,
                                            op :=
                                              Go.Op.call
                                                { callee := Go.Callee.value (Go.Operand.func 69),
                                                  args := { toList := [Go.Operand.tmp 54] },
                                                  argTypes := { toList := [80] } },
                                            type := 100 },
                                          { dst := Option.some 53, g := Go.Am.QG.no,
                                            op := Go.Op.move (Go.Operand.tmp 55), type := 100 },
                                          { dst := Option.some 56, g := Go.Am.QG.no,
                                            op := Go.Op.extract (Go.Operand.tmp 53) 0, type := 5 },
                                          { dst := Option.some 57, g := Go.Am.QG.no,
                                            op := Go.Op.extract (Go.Operand.tmp 53) 1, type := 4 },
                                          { dst := Option.some 8, g := Go.Am.QG.no,
                                            op := Go.Op.assign (Go.Operand.tmp 56), type := 5 },
                                          { dst := Option.some 9, g := Go.Am.QG.no,
                                            op := Go.Op.assign (Go.Operand.tmp 57), type := 4 }]).seq
                                    (((Go.Am.QC.plain
                                              [{ dst := Option.some 58, g := Go.Am.QG.no,
                                                  op := Go.Op.move (Go.Operand.tmp 9), type := 4 },
                                                { dst := Option.some 59, g := Go.Am.QG.no,
                                                  op := Go.Op.unOp Go.UnOp.not 4 (Go.Operand.tmp 58), type := 4 },
                                                { dst := Option.some 60, g := Go.Am.QG.no,
                                                  op := Go.Op.move (Go.Operand.tmp 59), type := 4 },
                                                { dst := Option.some 61, g := Go.Am.QG.at 60 Bool.false,
                                                  op := Go.Op.move (Go.Operand.tmp 8), type := 5 },
                                                { dst := Option.some 62, g := Go.Am.QG.at 60 Bool.false,
                                                  op :=
                                                    Go.Op.build 125
                                                      {
                                                        toList :=
                                                          [(0,
                                                              Go.Operand.const
                                                                (Go.Value.int Go.IntKind.u8 (Int.ofNat 44))),
                                                            (1,
                                                              Go.Operand.const
                                                                (Go.Value.int Go.IntKind.u8 (Int.ofNat 125)))] },
                                                  type := 125 },
                                                { dst := Option.some 63, g := Go.Am.QG.at 60 Bool.false,
                                                  op := Go.Op.move (Go.Operand.tmp 7), type := 3 },
                                                { dst := Option.some 64, g := Go.Am.QG.at 60 Bool.false,
                                                  op := Go.Op.index 125 (Go.Operand.tmp 62) (Go.Operand.tmp 63),
                                                  type := 5 },
                                                { dst := Option.some 65, g := Go.Am.QG.at 60 Bool.false,
                                                  op :=
                                                    Go.Op.binOp Go.BinOp.neq 5 (Go.Operand.tmp 61) (Go.Operand.tmp 64)
                                                      5,
                                                  type := 4 },
                                                { dst := Option.some 66, g := Go.Am.QG.no,
                                                  op :=
                                                    Go.Op.pick (Go.Operand.tmp 60)
                                                      (Go.Operand.const (Go.Value.bool Bool.true)) (Go.Operand.tmp 65),
                                                  type := 4 }]).seq
                                          (Go.Am.QC.cond (Go.Operand.tmp 66)
                                            ((Go.Am.QC.plain
                                                  [{ dst := Option.some 67, g := Go.Am.QG.no,
                                                      op := Go.Op.move (Go.Operand.tmp 0), type := 80 },
                                                    { dst := Option.some 68, g := Go.Am.QG.no,
                                                      op :=
                                                        Go.Op.call
                                                          { callee := Go.Callee.value (Go.Operand.func 56),
                                                            args :=
                                                              {
                                                                toList :=
                                                                  [Go.Operand.tmp 67,
                                                                    Go.Operand.const
                                                                      (Go.Value.int Go.IntKind.i64 (Int.ofNat 3))] },
                                                            argTypes := { toList := [80, 3] } },
                                                      type := 28 },
                                                    { dst := Option.none, g := Go.Am.QG.no,
                                                      op := Go.Op.store 28 (Go.Operand.tmp 4) (Go.Operand.tmp 68),
                                                      type := 0 }]).seq
                                              Go.Am.QC.ret)
                                            Go.Am.QC.skip)).seq
                                      (Go.Am.QC.plain
                                        [{ dst := Option.some 69, g := Go.Am.QG.no, op := Go.Op.move (Go.Operand.tmp 0),
                                            type := 80 },
                                          { dst := Option.some 70, g := Go.Am.QG.no,
                                            op := Go.Op.nilCheck (Go.Operand.tmp 69), type := 0 },
                                          { dst := Option.some 71, g := Go.Am.QG.no,
                                            op := Go.Op.fieldAddr 82 (Go.Operand.tmp 70) 1, type := 0 },
                                          { dst := Option.some 72, g := Go.Am.QG.no,
                                            op := Go.Op.load 3 (Go.Operand.tmp 71), type := 3 },
                                          { dst := Option.some 73, g := Go.Am.QG.no,
                                            op :=
                                              Go.Op.binOp Go.BinOp.add 3 (Go.Operand.tmp 72)
                                                (Go.Operand.const (Go.Value.int Go.IntKind.i64 (Int.ofNat 1))) 3,
                                            type := 3 },
                                          { dst := Option.some 74, g := Go.Am.QG.no,
                                            op := Go.Op.nilCheck (Go.Operand.tmp 69), type := 0 },
                                          { dst := Option.some 75, g := Go.Am.QG.no,
                                            op := Go.Op.fieldAddr 82 (Go.Operand.tmp 74) 1, type := 0 },
                                          { dst := Option.none, g := Go.Am.QG.no,
                                            op := Go.Op.store 3 (Go.Operand.tmp 75) (Go.Operand.tmp 73),
                                            type := 0 }])))))))).seq
                      (Go.Am.QC.plain
                        [{ dst := Option.some 17, g := Go.Am.QG.no, op := Go.Op.move (Go.Operand.tmp 7), type := 3 },
                          { dst := Option.some 18, g := Go.Am.QG.no,
                            op :=
                              Go.Op.binOp Go.BinOp.add 3 (Go.Operand.tmp 17)
                                (Go.Operand.const (Go.Value.int Go.IntKind.i64 (Int.ofNat 1))) 3,
                            type := 3 },
                          { dst := Option.some 7, g := Go.Am.QG.no, op := Go.Op.assign (Go.Operand.tmp 18),
                            type := 3 }]))).loop)).seq
          (((Go.Am.QC.plain
                    [{ dst := Option.some 76, g := Go.Am.QG.no,
                        op :=
                          Go.Op.indexAddr 124 (Go.Operand.tmp 6)
                            (Go.Operand.const (Go.Value.int Go.IntKind.i64 (Int.ofNat 0))),
                        type := 0 },
                      { dst := Option.some 77, g := Go.Am.QG.no, op := Go.Op.load 3 (Go.Operand.tmp 76), type := 3 },
                      { dst := Option.some 78, g := Go.Am.QG.no,
                        op :=
                          Go.Op.indexAddr 124 (Go.Operand.tmp 6)
                            (Go.Operand.const (Go.Value.int Go.IntKind.i64 (Int.ofNat 1))),
                        type := 0 },
                      { dst := Option.some 79, g := Go.Am.QG.no, op := Go.Op.load 3 (Go.Operand.tmp 78), type := 3 },
                      { dst := Option.some 80, g := Go.Am.QG.no,
                        op := Go.Op.binOp Go.BinOp.gtr 3 (Go.Operand.tmp 77) (Go.Operand.tmp 79) 3, type := 4 }]).seq
                (Go.Am.QC.cond (Go.Operand.tmp 80)
                  ((Go.Am.QC.plain
                        [{ dst := Option.some 81, g := Go.Am.QG.no, op := Go.Op.move (Go.Operand.tmp 0), type := 80 },
                          { dst := Option.some 82, g := Go.Am.QG.no, op := Go.Op.move (Go.Operand.tmp 5), type := 3 },
                          { dst := Option.some 83, g := Go.Am.QG.no, op := Go.Op.nilCheck (Go.Operand.tmp 81),
                            type := 0 },
                          { dst := Option.some 84, g := Go.Am.QG.no, op := Go.Op.fieldAddr 82 (Go.Operand.tmp 83) 1,
                            type := 0 },
                          { dst := Option.none, g := Go.Am.QG.no,
                            op := Go.Op.store 3 (Go.Operand.tmp 84) (Go.Operand.tmp 82), type := 0 }]).seq
                    ((Go.Am.QC.plain
                          [{ dst := Option.some 85, g := Go.Am.QG.no, op := Go.Op.move (Go.Operand.tmp 0), type := 80 },
                            { dst := Option.some 86, g := Go.Am.QG.no,
                              op :=
                                Go.Op.call
                                  { callee := Go.Callee.value (Go.Operand.func 56),
                                    args :=
                                      {
                                        toList :=
                                          [Go.Operand.tmp 85,
                                            Go.Operand.const (Go.Value.int Go.IntKind.i64 (Int.ofNat 3))] },
                                    argTypes := { toList := [80, 3] } },
                              type := 28 },
                            { dst := Option.none, g := Go.Am.QG.no,
                              op := Go.Op.store 28 (Go.Operand.tmp 4) (Go.Operand.tmp 86), type := 0 }]).seq
                      Go.Am.QC.ret))
                  Go.Am.QC.skip)).seq
            ((Go.Am.QC.plain
                  [{ dst := Option.some 87, g := Go.Am.QG.no,
                      op :=
                        Go.Op.indexAddr 124 (Go.Operand.tmp 6)
                          (Go.Operand.const (Go.Value.int Go.IntKind.i64 (Int.ofNat 0))),
                      type := 0 },
                    { dst := Option.some 88, g := Go.Am.QG.no, op := Go.Op.load 3 (Go.Operand.tmp 87), type := 3 },
                    { dst := Option.some 89, g := Go.Am.QG.no,
                      op :=
                        Go.Op.indexAddr 124 (Go.Operand.tmp 6)
                          (Go.Operand.const (Go.Value.int Go.IntKind.i64 (Int.ofNat 1))),
                      type := 0 },
                    { dst := Option.some 90, g := Go.Am.QG.no, op := Go.Op.load 3 (Go.Operand.tmp 89), type := 3 },
                    { dst := Option.some 91, g := Go.Am.QG.no, op := Go.Op.load 28 (Go.Operand.tmp 3), type := 28 },
                    { dst := Option.some 92, g := Go.Am.QG.no,
                      op := Go.Op.buildSlice 26 1 { toList := [(0, Go.Operand.tmp 91)] }, type := 26 },
                    { dst := Option.some 93, g := Go.Am.QG.no,
                      op :=
                        Go.Op.build 28
                          {
                            toList :=
                              [(0, Go.Operand.const (Go.Value.int Go.IntKind.i64 (Int.ofNat 9))),
                                (2, Go.Operand.tmp 88), (3, Go.Operand.tmp 90), (4, Go.Operand.tmp 92)] },
                      type := 28 },
                    { dst := Option.none, g := Go.Am.QG.no, op := Go.Op.store 28 (Go.Operand.tmp 4) (Go.Operand.tmp 93),
                      type := 0 }]).seq
              Go.Am.QC.ret))))))
theorem q89_ok : bodyComp Tryd.prog 89 = some q89 := by kernel_rfl
noncomputable def q92 : QC :=
  ((Go.Am.QC.plain
        [{ dst := Option.some 2, g := Go.Am.QG.no,
            op := Go.Op.assign (Go.Operand.const (Go.Value.int Go.IntKind.i64 (Int.ofNat 0))), type := 3 }]).seq
    (((Go.Am.QC.plain
              [{ dst := Option.some 3, g := Go.Am.QG.no,
                  op := Go.Op.assign (Go.Operand.const (Go.Value.int Go.IntKind.i64 (Int.ofNat 0))), type := 3 }]).seq
          (Go.Am.QC.block 0
            (((Go.Am.QC.plain
                        [{ dst := Option.some 4, g := Go.Am.QG.no, op := Go.Op.move (Go.Operand.tmp 3), type := 3 },
                          { dst := Option.some 5, g := Go.Am.QG.no,
                            op :=
                              Go.Op.binOp Go.BinOp.lss 3 (Go.Operand.tmp 4)
                                (Go.Operand.const (Go.Value.int Go.IntKind.i64 (Int.ofNat 5))) 3,
                            type := 4 }]).seq
                    (Go.Am.QC.cond (Go.Operand.tmp 5) Go.Am.QC.skip (Go.Am.QC.exit 0))).seq
                ((Go.Am.QC.block 1
                      ((Go.Am.QC.plain
                            [{ dst := Option.some 8, g := Go.Am.QG.no, op := Go.Op.move (Go.Operand.tmp 3), type := 3 },
                              { dst := Option.some 9, g := Go.Am.QG.no,
                                op :=
                                  Go.Op.index 9
                                    (Go.Operand.const
                                      (Go.Value.string
                                        {
                                          data :=
                                            {
                                              toList :=
                                                [{
                                                    toBitVec :=
                                                      { toFin := ⟨119, Nat.mod_lt 119 (BitVec.ofNat._proof_1 8)⟩ } },
                                                  {
                                                    toBitVec :=
                                                      { toFin := ⟨98, Nat.mod_lt 98 (BitVec.ofNat._proof_1 8)⟩ } },
                                                  {
                                                    toBitVec :=
                                                      { toFin := ⟨99, Nat.mod_lt 99 (BitVec.ofNat._proof_1 8)⟩ } },
                                                  {
                                                    toBitVec :=
                                                      { toFin := ⟨102, Nat.mod_lt 102 (BitVec.ofNat._proof_1 8)⟩ } },
                                                  {
                                                    toBitVec :=
                                                      {
                                                        toFin :=
                                                          ⟨116, Nat.mod_lt 116 (BitVec.ofNat._proof_1 8)⟩ } }] } }))
                                    (Go.Operand.tmp 8),
                                type := 5 },
                              { dst := Option.some 10, g := Go.Am.QG.no, op := Go.Op.move (Go.Operand.tmp 0),
                                type := 5 },
                              { dst := Option.some 11, g := Go.Am.QG.no,
                                op := Go.Op.binOp Go.BinOp.eql 5 (Go.Operand.tmp 9) (Go.Operand.tmp 10) 5,
                                type := 4 }]).seq
                        (Go.Am.QC.cond (Go.Operand.tmp 11)
                          ((Go.Am.QC.plain
                                [{ dst := Option.some 12, g := Go.Am.QG.no, op := Go.Op.move (Go.Operand.tmp 3),
                                    type := 3 },
                                  { dst := Option.some 2, g := Go.Am.QG.no, op := Go.Op.assign (Go.Operand.tmp 12),
                                    type := 3 }]).seq
                            Go.Am.QC.ret)
                          Go.Am.QC.skip))).seq
                  (Go.Am.QC.plain
                    [{ dst := Option.some 6, g := Go.Am.QG.no, op := Go.Op.move (Go.Operand.tmp 3), type := 3 },
                      { dst := Option.some 7, g := Go.Am.QG.no,
                        op :=
                          Go.Op.binOp Go.BinOp.add 3 (Go.Operand.tmp 6)
                            (Go.Operand.const (Go.Value.int Go.IntKind.i64 (Int.ofNat 1))) 3,
                        type := 3 },
                      { dst := Option.some 3, g := Go.Am.QG.no, op := Go.Op.assign (Go.Operand.tmp 7),
                        type := 3 }]))).loop)).seq
      ((Go.Am.QC.plain
            [{ dst := Option.some 2, g := Go.Am.QG.no,
                op := Go.Op.assign (Go.Operand.const (Go.Value.int Go.IntKind.i64 (Int.negSucc 0))), type := 3 }]).seq
        Go.Am.QC.ret)))
theorem q92_ok : bodyComp Tryd.prog 92 = some q92 := by kernel_rfl
noncomputable def q93 : QC :=
  ((Go.Am.QC.plain [{ dst := Option.some 2, g := Go.Am.QG.no, op := Go.Op.alloc 28, type := 0 }]).seq
    ((Go.Am.QC.plain
          [{ dst := Option.some 3, g := Go.Am.QG.no,
              op := Go.Op.assign (Go.Operand.const (Go.Value.int Go.IntKind.i64 (Int.ofNat 0))), type := 3 }]).seq
      (Go.Am.QC.block 0
        (Go.Am.QC.block 1
            ((Go.Am.QC.plain
                  [{ dst := Option.some 7, g := Go.Am.QG.no, op := Go.Op.move (Go.Operand.tmp 0), type := 80 },
                    { dst := Option.some 8, g := Go.Am.QG.no,
                      op :=
                        Go.Op.call
                          { callee := Go.Callee.value (Go.Operand.func 69), args := { toList := [Go.Operand.tmp 7] },
                            argTypes := { toList := [80] } },
                      type := 100 },
                    { dst := Option.some 6, g := Go.Am.QG.no, op := Go.Op.move (Go.Operand.tmp 8), type := 100 },
                    { dst := Option.some 9, g := Go.Am.QG.no, op := Go.Op.extract (Go.Operand.tmp 6) 0, type := 5 },
                    { dst := Option.some 10, g := Go.Am.QG.no, op := Go.Op.extract (Go.Operand.tmp 6) 1, type := 4 },
                    { dst := Option.some 4, g := Go.Am.QG.no, op := Go.Op.assign (Go.Operand.tmp 9), type := 5 },
                    { dst := Option.some 5, g := Go.Am.QG.no, op := Go.Op.assign (Go.Operand.tmp 10), type := 4 }]).seq
              (((Go.Am.QC.plain
                        [{ dst := Option.some 11, g := Go.Am.QG.no, op := Go.Op.move (Go.Operand.tmp 5), type := 4 },
                          { dst := Option.some 12, g := Go.Am.QG.no, op := Go.Op.move (Go.Operand.tmp 11), type := 4 },
                          { dst := Option.some 13, g := Go.Am.QG.at 12 Bool.true, op := Go.Op.move (Go.Operand.tmp 4),
                            type := 5 },
                          { dst := Option.some 14, g := Go.Am.QG.at 12 Bool.true,
                            op :=
                              Go.Op.binOp Go.BinOp.eql 5 (Go.Operand.tmp 13)
                                (Go.Operand.const (Go.Value.int Go.IntKind.u8 (Int.ofNat 93))) 5,
                            type := 4 },
                          { dst := Option.some 15, g := Go.Am.QG.no,
                            op :=
                              Go.Op.pick (Go.Operand.tmp 12) (Go.Operand.tmp 14)
                                (Go.Operand.const (Go.Value.bool Bool.false)),
                            type := 4 },
                          { dst := Option.some 16, g := Go.Am.QG.no, op := Go.Op.move (Go.Operand.tmp 15), type := 4 },
                          { dst := Option.some 17, g := Go.Am.QG.at 16 Bool.true, op := Go.Op.move (Go.Operand.tmp 3),
                            type := 3 },
                          { dst := Option.some 18, g := Go.Am.QG.at 16 Bool.true,
                            op :=
                              Go.Op.binOp Go.BinOp.gtr 3 (Go.Operand.tmp 17)
                                (Go.Operand.const (Go.Value.int Go.IntKind.i64 (Int.ofNat 0))) 3,
                            type := 4 },
                          { dst := Option.some 19, g := Go.Am.QG.no,
                            op :=
                              Go.Op.pick (Go.Operand.tmp 16) (Go.Operand.tmp 18)
                                (Go.Operand.const (Go.Value.bool Bool.false)),
                            type := 4 }]).seq
                    (Go.Am.QC.cond (Go.Operand.tmp 19)
                      ((Go.Am.QC.plain
                            [{ dst := Option.some 20, g := Go.Am.QG.no, op := Go.Op.move (Go.Operand.tmp 0),
                                type := 80 },
                              { dst := Option.some 21, g := Go.Am.QG.no, op := Go.Op.nilCheck (Go.Operand.tmp 20),
                                type := 0 },
                              { dst := Option.some 22, g := Go.Am.QG.no, op := Go.Op.fieldAddr 82 (Go.Operand.tmp 21) 1,
                                type := 0 },
                              { dst := Option.some 23, g := Go.Am.QG.no, op := Go.Op.load 3 (Go.Operand.tmp 22),
                                type := 3 },
                              { dst := Option.some 24, g := Go.Am.QG.no,
                                op :=
                                  Go.Op.binOp Go.BinOp.add 3 (Go.Operand.tmp 23)
                                    (Go.Operand.const (Go.Value.int Go.IntKind.i64 (Int.ofNat 1))) 3,
                                type := 3 },
                              { dst := Option.some 25, g := Go.Am.QG.no, op := Go.Op.nilCheck (Go.Operand.tmp 20),
                                type := 0 },
                              { dst := Option.some 26, g := Go.Am.QG.no, op := Go.Op.fieldAddr 82 (Go.Operand.tmp 25) 1,
                                type := 0 },
                              { dst := Option.none, g := Go.Am.QG.no,
                                op := Go.Op.store 3 (Go.Operand.tmp 26) (Go.Operand.tmp 24), type := 0 }]).seq
                        ((Go.Am.QC.plain
                              [{ dst := Option.some 27, g := Go.Am.QG.no, op := Go.Op.move (Go.Operand.tmp 3),
                                  type := 3 },
                                { dst := Option.some 28, g := Go.Am.QG.no,
                                  op :=
                                    Go.Op.build 28
                                      {
                                        toList :=
                                          [(0, Go.Operand.const (Go.Value.int Go.IntKind.i64 (Int.ofNat 1))),
                                            (1, Go.Operand.tmp 27)] },
                                  type := 28 },
                                { dst := Option.none, g := Go.Am.QG.no,
                                  op := Go.Op.store 28 (Go.Operand.tmp 2) (Go.Operand.tmp 28), type := 0 }]).seq
                          Go.Am.QC.ret))
                      Go.Am.QC.skip)).seq
                (((Go.Am.QC.plain
                          [{ dst := Option.some 29, g := Go.Am.QG.no, op := Go.Op.move (Go.Operand.tmp 5), type := 4 },
                            { dst := Option.some 30, g := Go.Am.QG.no,
                              op := Go.Op.unOp Go.UnOp.not 4 (Go.Operand.tmp 29), type := 4 },
                            { dst := Option.some 31, g := Go.Am.QG.no, op := Go.Op.move (Go.Operand.tmp 30),
                              type := 4 },
                            { dst := Option.some 32, g := Go.Am.QG.at 31 Bool.false,
                              op := Go.Op.move (Go.Operand.tmp 4), type := 5 },
                            { dst := Option.some 33, g := Go.Am.QG.at 31 Bool.false,
                              op :=
                                Go.Op.call
                                  { callee := Go.Callee.value (Go.Operand.func 92),
                                    args := { toList := [Go.Operand.tmp 32] }, argTypes := { toList := [5] } },
                              type := 3 },
                            { dst := Option.some 34, g := Go.Am.QG.at 31 Bool.false,
                              op :=
                                Go.Op.binOp Go.BinOp.lss 3 (Go.Operand.tmp 33)
                                  (Go.Operand.const (Go.Value.int Go.IntKind.i64 (Int.ofNat 0))) 3,
                              type := 4 },
                            { dst := Option.some 35, g := Go.Am.QG.no,
                              op :=
                                Go.Op.pick (Go.Operand.tmp 31) (Go.Operand.const (Go.Value.bool Bool.true))
                                  (Go.Operand.tmp 34),
                              type := 4 }]).seq
                      (Go.Am.QC.cond (Go.Operand.tmp 35)
                        ((Go.Am.QC.plain
                              [{ dst := Option.some 36, g := Go.Am.QG.no, op := Go.Op.move (Go.Operand.tmp 0),
                                  type := 80 },
                                { dst := Option.some 37, g := Go.Am.QG.no,
                                  op :=
                                    Go.Op.call
                                      { callee := Go.Callee.value (Go.Operand.func 56),
                                        args :=
                                          {
                                            toList :=
                                              [Go.Operand.tmp 36,
                                                Go.Operand.const (Go.Value.int Go.IntKind.i64 (Int.ofNat 3))] },
                                        argTypes := { toList := [80, 3] } },
                                  type := 28 },
                                { dst := Option.none, g := Go.Am.QG.no,
                                  op := Go.Op.store 28 (Go.Operand.tmp 2) (Go.Operand.tmp 37), type := 0 }]).seq
                          Go.Am.QC.ret)
                        Go.Am.QC.skip)).seq
                  ((Go.Am.QC.plain
                        [{ dst := Option.some 38, g := Go.Am.QG.no, op := Go.Op.move (Go.Operand.tmp 3), type := 3 },
                          { dst := Option.some 39, g := Go.Am.QG.no, op := Go.Op.move (Go.Operand.tmp 4), type := 5 },
                          { dst := Option.some 40, g := Go.Am.QG.no,
                            op :=
                              Go.Op.call
                                { callee := Go.Callee.value (Go.Operand.func 92),
                                  args := { toList := [Go.Operand.tmp 39] }, argTypes := { toList := [5] } },
                            type := 3 },
                          { dst := Option.some 41, g := Go.Am.QG.no, op := Go.Op.convert 3 50 (Go.Operand.tmp 40),
                            type := 50 },
                          { dst := Option.some 42, g := Go.Am.QG.no,
                            op :=
                              Go.Op.binOp Go.BinOp.shl 3 (Go.Operand.const (Go.Value.int Go.IntKind.i64 (Int.ofNat 1)))
                                (Go.Operand.tmp 41) 50,
                            type := 3 },
                          { dst := Option.some 43, g := Go.Am.QG.no,
                            op := Go.Op.binOp Go.BinOp.or 3 (Go.Operand.tmp 38) (Go.Operand.tmp 42) 3, type := 3 },
                          { dst := Option.some 3, g := Go.Am.QG.no, op := Go.Op.assign (Go.Operand.tmp 43),
                            type := 3 }]).seq
                    (Go.Am.QC.plain
                      [{ dst := Option.some 44, g := Go.Am.QG.no, op := Go.Op.move (Go.Operand.tmp 0), type := 80 },
                        { dst := Option.some 45, g := Go.Am.QG.no, op := Go.Op.nilCheck (Go.Operand.tmp 44),
                          type := 0 },
                        { dst := Option.some 46, g := Go.Am.QG.no, op := Go.Op.fieldAddr 82 (Go.Operand.tmp 45) 1,
                          type := 0 },
                        { dst := Option.some 47, g := Go.Am.QG.no, op := Go.Op.load 3 (Go.Operand.tmp 46), type := 3 },
                        { dst := Option.some 48, g := Go.Am.QG.no,
                          op :=
                            Go.Op.binOp Go.BinOp.add 3 (Go.Operand.tmp 47)
                              (Go.Operand.const (Go.Value.int Go.IntKind.i64 (Int.ofNat 1))) 3,
                          type := 3 },
                        { dst := Option.some 49, g := Go.Am.QG.no, op := Go.Op.nilCheck (Go.Operand.tmp 44),
                          type := 0 },
                        { dst := Option.some 50, g := Go.Am.QG.no, op := Go.Op.fieldAddr 82 (Go.Operand.tmp 49) 1,
                          type := 0 },
                        { dst := Option.none, g := Go.Am.QG.no,
                          op := Go.Op.store 3 (Go.Operand.tmp 50) (Go.Operand.tmp 48), type := 0 }])))))).loop)))
theorem q93_ok : bodyComp Tryd.prog 93 = some q93 := by kernel_rfl
noncomputable def q94 : QC :=
  ((Go.Am.QC.plain [{ dst := Option.some 2, g := Go.Am.QG.no, op := Go.Op.alloc 28, type := 0 }]).seq
    ((Go.Am.QC.plain
          [{ dst := Option.some 6, g := Go.Am.QG.no, op := Go.Op.move (Go.Operand.tmp 0), type := 80 },
            { dst := Option.some 7, g := Go.Am.QG.no, op := Go.Op.nilCheck (Go.Operand.tmp 6), type := 0 },
            { dst := Option.some 8, g := Go.Am.QG.no, op := Go.Op.fieldAddr 82 (Go.Operand.tmp 7) 2, type := 0 },
            { dst := Option.some 9, g := Go.Am.QG.no, op := Go.Op.load 3 (Go.Operand.tmp 8), type := 3 },
            { dst := Option.some 10, g := Go.Am.QG.no,
              op :=
                Go.Op.binOp Go.BinOp.add 3 (Go.Operand.tmp 9)
                  (Go.Operand.const (Go.Value.int Go.IntKind.i64 (Int.ofNat 1))) 3,
              type := 3 },
            { dst := Option.some 11, g := Go.Am.QG.no, op := Go.Op.nilCheck (Go.Operand.tmp 6), type := 0 },
            { dst := Option.some 12, g := Go.Am.QG.no, op := Go.Op.fieldAddr 82 (Go.Operand.tmp 11) 2, type := 0 },
            { dst := Option.none, g := Go.Am.QG.no, op := Go.Op.store 3 (Go.Operand.tmp 12) (Go.Operand.tmp 10),
              type := 0 }]).seq
      ((Go.Am.QC.plain
            [{ dst := Option.some 13, g := Go.Am.QG.no, op := Go.Op.move (Go.Operand.tmp 0), type := 80 },
              { dst := Option.some 14, g := Go.Am.QG.no,
                op :=
                  Go.Op.call
                    { callee := Go.Callee.value (Go.Operand.func 55), args := { toList := [Go.Operand.tmp 13] },
                      argTypes := { toList := [80] } },
                type := 28 },
              { dst := Option.some 3, g := Go.Am.QG.no, op := Go.Op.alloc 28, type := 0 },
              { dst := Option.none, g := Go.Am.QG.no, op := Go.Op.store 28 (Go.Operand.tmp 3) (Go.Operand.tmp 14),
                type := 0 }]).seq
        ((Go.Am.QC.plain
              [{ dst := Option.some 16, g := Go.Am.QG.no, op := Go.Op.move (Go.Operand.tmp 0), type := 80 },
                { dst := Option.some 17, g := Go.Am.QG.no,
                  op :=
                    Go.Op.call
                      { callee := Go.Callee.value (Go.Operand.func 69), args := { toList := [Go.Operand.tmp 16] },
                        argTypes := { toList := [80] } },
                  type := 100 },
                { dst := Option.some 15, g := Go.Am.QG.no, op := Go.Op.move (Go.Operand.tmp 17), type := 100 },
                { dst := Option.some 18, g := Go.Am.QG.no, op := Go.Op.extract (Go.Operand.tmp 15) 0, type := 5 },
                { dst := Option.some 19, g := Go.Am.QG.no, op := Go.Op.extract (Go.Operand.tmp 15) 1, type := 4 },
                { dst := Option.some 4, g := Go.Am.QG.no, op := Go.Op.assign (Go.Operand.tmp 18), type := 5 },
                { dst := Option.some 5, g := Go.Am.QG.no, op := Go.Op.assign (Go.Operand.tmp 19), type := 4 }]).seq
          (((Go.Am.QC.plain
                    [{ dst := Option.some 20, g := Go.Am.QG.no, op := Go.Op.move (Go.Operand.tmp 5), type := 4 },
                      { dst := Option.some 21, g := Go.Am.QG.no, op := Go.Op.unOp Go.UnOp.not 4 (Go.Operand.tmp 20),
                        type := 4 },
                      { dst := Option.some 22, g := Go.Am.QG.no, op := Go.Op.move (Go.Operand.tmp 21), type := 4 },
                      { dst := Option.some 23, g := Go.Am.QG.at 22 Bool.false, op := Go.Op.move (Go.Operand.tmp 4),
                        type := 5 },
                      { dst := Option.some 24, g := Go.Am.QG.at 22 Bool.false,
                        op :=
                          Go.Op.binOp Go.BinOp.neq 5 (Go.Operand.tmp 23)
                            (Go.Operand.const (Go.Value.int Go.IntKind.u8 (Int.ofNat 41))) 5,
                        type := 4 },
                      { dst := Option.some 25, g := Go.Am.QG.no,
                        op :=
                          Go.Op.pick (Go.Operand.tmp 22) (Go.Operand.const (Go.Value.bool Bool.true))
                            (Go.Operand.tmp 24),
                        type := 4 }]).seq
                (Go.Am.QC.cond (Go.Operand.tmp 25)
                  ((Go.Am.QC.plain
                        [{ dst := Option.some 26, g := Go.Am.QG.no, op := Go.Op.move (Go.Operand.tmp 0), type := 80 },
                          { dst := Option.some 27, g := Go.Am.QG.no,
                            op :=
                              Go.Op.call
                                { callee := Go.Callee.value (Go.Operand.func 56),
                                  args :=
                                    {
                                      toList :=
                                        [Go.Operand.tmp 26,
                                          Go.Operand.const (Go.Value.int Go.IntKind.i64 (Int.ofNat 3))] },
                                  argTypes := { toList := [80, 3] } },
                            type := 28 },
                          { dst := Option.none, g := Go.Am.QG.no,
                            op := Go.Op.store 28 (Go.Operand.tmp 2) (Go.Operand.tmp 27), type := 0 }]).seq
                    Go.Am.QC.ret)
                  Go.Am.QC.skip)).seq
            ((Go.Am.QC.plain
                  [{ dst := Option.some 28, g := Go.Am.QG.no, op := Go.Op.move (Go.Operand.tmp 0), type := 80 },
                    { dst := Option.some 29, g := Go.Am.QG.no, op := Go.Op.nilCheck (Go.Operand.tmp 28), type := 0 },
                    { dst := Option.some 30, g := Go.Am.QG.no, op := Go.Op.fieldAddr 82 (Go.Operand.tmp 29) 1,
                      type := 0 },
                    { dst := Option.some 31, g := Go.Am.QG.no, op := Go.Op.load 3 (Go.Operand.tmp 30), type := 3 },
                    { dst := Option.some 32, g := Go.Am.QG.no,
                      op :=
                        Go.Op.binOp Go.BinOp.add 3 (Go.Operand.tmp 31)
                          (Go.Operand.const (Go.Value.int Go.IntKind.i64 (Int.ofNat 1))) 3,
                      type := 3 },
                    { dst := Option.some 33, g := Go.Am.QG.no, op := Go.Op.nilCheck (Go.Operand.tmp 28), type := 0 },
                    { dst := Option.some 34, g := Go.Am.QG.no, op := Go.Op.fieldAddr 82 (Go.Operand.tmp 33) 1,
                      type := 0 },
                    { dst := Option.none, g := Go.Am.QG.no, op := Go.Op.store 3 (Go.Operand.tmp 34) (Go.Operand.tmp 32),
                      type := 0 }]).seq
              ((Go.Am.QC.plain
                    [{ dst := Option.some 35, g := Go.Am.QG.no, op := Go.Op.move (Go.Operand.tmp 0), type := 80 },
                      { dst := Option.some 36, g := Go.Am.QG.no, op := Go.Op.nilCheck (Go.Operand.tmp 35), type := 0 },
                      { dst := Option.some 37, g := Go.Am.QG.no, op := Go.Op.fieldAddr 82 (Go.Operand.tmp 36) 2,
                        type := 0 },
                      { dst := Option.some 38, g := Go.Am.QG.no, op := Go.Op.load 3 (Go.Operand.tmp 37), type := 3 },
                      { dst := Option.some 39, g := Go.Am.QG.no,
                        op :=
                          Go.Op.binOp Go.BinOp.sub 3 (Go.Operand.tmp 38)
                            (Go.Operand.const (Go.Value.int Go.IntKind.i64 (Int.ofNat 1))) 3,
                        type := 3 },
                      { dst := Option.some 40, g := Go.Am.QG.no, op := Go.Op.nilCheck (Go.Operand.tmp 35), type := 0 },
                      { dst := Option.some 41, g := Go.Am.QG.no, op := Go.Op.fieldAddr 82 (Go.Operand.tmp 40) 2,
                        type := 0 },
                      { dst := Option.none, g := Go.Am.QG.no,
                        op := Go.Op.store 3 (Go.Operand.tmp 41) (Go.Operand.tmp 39), type := 0 }]).seq
                ((Go.Am.QC.plain
                      [{ dst := Option.some 42, g := Go.Am.QG.no, op := Go.Op.load 28 (Go.Operand.tmp 3), type := 28 },
                        { dst := Option.none, g := Go.Am.QG.no,
                          op := Go.Op.store 28 (Go.Operand.tmp 2) (Go.Operand.tmp 42), type := 0 }]).seq
                  Go.Am.QC.ret))))))))
theorem q94_ok : bodyComp Tryd.prog 94 = some q94 := by kernel_rfl
end Go.Proofs.YtfhopcfafbmikaaDoor
