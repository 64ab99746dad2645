/- Two regions of FitTotals. -/
import Derived.Test.YtlmdcdpaelblmaaFKn
import Derived.Test.YtlmdcdpaelblmaaFR16
import Derived.OpenShut
import Derived.LoopN
import Derived.Deep.RegionHeld
namespace Go.Proofs.Ytlmdcdpaelblmaa
open Go.RowKit
namespace Wd
set_option maxHeartbeats 16000000 in
set_option maxRecDepth 100000 in
theorem tail (x0 x1 x2 x3 x4 x5 y0 y1 y2 y3 y4 y5 z0 z1 z2 z3 z4 z5 : Int) (x0a : 0 ≤ x0) (x0b : x0 ≤ 1000) (x1a : 0 ≤ x1) (x1b : x1 ≤ 1000) (x2a : 0 ≤ x2) (x2b : x2 ≤ 1000) (x3a : 0 ≤ x3) (x3b : x3 ≤ 1000) (x4a : 0 ≤ x4) (x4b : x4 ≤ 1000) (x5a : 0 ≤ x5) (x5b : x5 ≤ 1000) (y0a : 0 ≤ y0) (y0b : y0 ≤ 1000) (y1a : 0 ≤ y1) (y1b : y1 ≤ 1000) (y2a : 0 ≤ y2) (y2b : y2 ≤ 1000) (y3a : 0 ≤ y3) (y3b : y3 ≤ 1000) (y4a : 0 ≤ y4) (y4b : y4 ≤ 1000) (y5a : 0 ≤ y5) (y5b : y5 ≤ 1000) (z0a : 0 ≤ z0) (z0b : z0 ≤ 1000) (z1a : 0 ≤ z1) (z1b : z1 ≤ 1000) (z2a : 0 ≤ z2) (z2b : z2 ≤ 1000) (z3a : 0 ≤ z3) (z3b : z3 ≤ 1000) (z4a : 0 ≤ z4) (z4b : z4 ≤ 1000) (z5a : 0 ≤ z5) (z5b : z5 ≤ 1000) (B : Nat) (w wB : World) (G : Gr w wB)
    (h18 : Gr wB wB ∧ wB.cell? ⟨B, 0, none⟩ = some (.int .i64 x0) ∧ wB.cell? ⟨B, 1, none⟩ = some (.int .i64 x1) ∧ wB.cell? ⟨B, 2, none⟩ = some (.int .i64 x2) ∧ wB.cell? ⟨B, 3, none⟩ = some (.int .i64 x3) ∧ wB.cell? ⟨B, 4, none⟩ = some (.int .i64 x4) ∧ wB.cell? ⟨B, 5, none⟩ = some (.int .i64 x5) ∧ wB.cell? ⟨B + 1, 0, none⟩ = some (.int .i64 y0) ∧ wB.cell? ⟨B + 1, 1, none⟩ = some (.int .i64 y1) ∧ wB.cell? ⟨B + 1, 2, none⟩ = some (.int .i64 y2) ∧ wB.cell? ⟨B + 1, 3, none⟩ = some (.int .i64 y3) ∧ wB.cell? ⟨B + 1, 4, none⟩ = some (.int .i64 y4) ∧ wB.cell? ⟨B + 1, 5, none⟩ = some (.int .i64 y5) ∧ wB.cell? ⟨B + 1 + 1, 0, none⟩ = some (.int .i64 z0) ∧ wB.cell? ⟨B + 1 + 1, 1, none⟩ = some (.int .i64 z1) ∧ wB.cell? ⟨B + 1 + 1, 2, none⟩ = some (.int .i64 z2) ∧ wB.cell? ⟨B + 1 + 1, 3, none⟩ = some (.int .i64 z3) ∧ wB.cell? ⟨B + 1 + 1, 4, none⟩ = some (.int .i64 z4) ∧ wB.cell? ⟨B + 1 + 1, 5, none⟩ = some (.int .i64 z5))
    (rX : rt x0 x1 x2 x3 x4 x5 = 0) (rZ : rt z0 z1 z2 z3 z4 z5 = 0) (tX : tot x0 x1 x2 x3 x4 x5 = x0 * 4 + x1 * 8 + x2 * 16 + x3 * 32 + x4 * 64) (tY : tot y0 y1 y2 y3 y4 y5 = y0 * 4 + y1 * 8 + y2 * 16 + y3 * 32 + y4 * 64) (tZ : tot z0 z1 z2 z3 z4 z5 = x0 * 4 + x1 * 8 + x2 * 16 + x3 * 32 + x4 * 64 + (y0 * 4 + y1 * 8 + y2 * 16 + y3 * 32 + y4 * 64))
    (v0 v1 v2 v3 v4 v5 v10 v11 v12 v13 v14 v15 v16 v17 v18 v19 v20 v21 v22 v23 v24 v25 v26 v27 v28 v29 v30 v31 v32 v33 v34 v35 v36 v37 v38 v39 v40 v41 v42 v43 v44 v45 v46 v47 v48 v49 v50 v51 v52 v53 v54 v55 v56 v57 v58 v59 v60 v61 v62 v63 v64 v65 v66 v67 v68 v69 v70 v71 v72 v73 : Value) :
    Code.wp Try.prog ((Code.region 10
                    #[{ dst := some 11, op := Op.assign (Operand.const (Value.int IntKind.i64 0)), type := 3,
                        pos := "law.go:72", after := #[], guard := none }]
                    false).seq
                (((Code.region 11
                          #[{ dst := some 74, op := Op.fieldAddr 24 (Operand.tmp 7) 0, type := 0, pos := "law.go:73",
                              after := #[], guard := none },
                            { dst := some 75, op := Op.load 22 (Operand.tmp 74), type := 22, pos := "law.go:73",
                              after := #[{ on := 0, ground := Ground.data }], guard := none },
                            { dst := some 76, op := Op.move (Operand.const (Value.int IntKind.i64 0)), type := 3,
                              pos := "law.go:73", after := #[], guard := none }]
                          false).seq
                      (Code.block 2
                        ((Code.region 12
                                #[{ dst := some 77,
                                    op :=
                                      Op.binOp BinOp.lss 3 (Operand.tmp 76) (Operand.const (Value.int IntKind.i64 5)) 3,
                                    type := 0, pos := "law.go:73", after := #[], guard := none }]
                                false).seq
                            ((Code.cond (Operand.tmp 77) Code.skip (Code.exit 2)).seq
                              ((Code.block 3
                                    ((Code.region 13
                                          #[{ dst := some 78, op := Op.move (Operand.tmp 76), type := 3,
                                              pos := "law.go:73", after := #[], guard := none },
                                            { dst := some 79, op := Op.index 22 (Operand.tmp 75) (Operand.tmp 76),
                                              type := 3, pos := "law.go:73", after := #[], guard := none },
                                            { dst := some 12, op := Op.assign (Operand.tmp 78), type := 3,
                                              pos := "law.go:73",
                                              after :=
                                                #[{ on := 0, ground := Ground.data },
                                                  { on := 0, ground := Ground.phase },
                                                  { on := 1, ground := Ground.phase }],
                                              guard := none },
                                            { dst := some 13, op := Op.assign (Operand.tmp 79), type := 3,
                                              pos := "law.go:73",
                                              after :=
                                                #[{ on := 1, ground := Ground.data },
                                                  { on := 2, ground := Ground.chain },
                                                  { on := 0, ground := Ground.phase },
                                                  { on := 1, ground := Ground.phase },
                                                  { on := 2, ground := Ground.phase }],
                                              guard := none }]
                                          false).seq
                                      (Code.region 14
                                        #[{ dst := some 80, op := Op.move (Operand.tmp 11), type := 3,
                                            pos := "law.go:74", after := #[], guard := none },
                                          { dst := some 81, op := Op.move (Operand.tmp 13), type := 3,
                                            pos := "law.go:74", after := #[], guard := none },
                                          { dst := some 82, op := Op.move (Operand.tmp 12), type := 3,
                                            pos := "law.go:74", after := #[], guard := none },
                                          { dst := some 83,
                                            op :=
                                              Op.call
                                                { callee := Callee.value (Operand.func 12), args := #[Operand.tmp 82],
                                                  argTypes := #[3] },
                                            type := 3, pos := "law.go:74",
                                            after := #[{ on := 2, ground := Ground.data }], guard := none },
                                          { dst := some 84,
                                            op := Op.binOp BinOp.mul 3 (Operand.tmp 81) (Operand.tmp 83) 3, type := 3,
                                            pos := "law.go:74",
                                            after :=
                                              #[{ on := 1, ground := Ground.data }, { on := 3, ground := Ground.data }],
                                            guard := none },
                                          { dst := some 85,
                                            op := Op.binOp BinOp.add 3 (Operand.tmp 80) (Operand.tmp 84) 3, type := 3,
                                            pos := "law.go:74",
                                            after :=
                                              #[{ on := 0, ground := Ground.data }, { on := 4, ground := Ground.data }],
                                            guard := none },
                                          { dst := some 11, op := Op.assign (Operand.tmp 85), type := 3,
                                            pos := "law.go:74",
                                            after :=
                                              #[{ on := 5, ground := Ground.data }, { on := 3, ground := Ground.chain },
                                                { on := 0, ground := Ground.phase },
                                                { on := 1, ground := Ground.phase },
                                                { on := 2, ground := Ground.phase },
                                                { on := 3, ground := Ground.phase },
                                                { on := 4, ground := Ground.phase },
                                                { on := 5, ground := Ground.phase }],
                                            guard := none }]
                                        false))).seq
                                (Code.region 15
                                  #[{ dst := some 86,
                                      op :=
                                        Op.binOp BinOp.add 3 (Operand.tmp 76) (Operand.const (Value.int IntKind.i64 1)) 3,
                                      type := 3, pos := "law.go:73", after := #[], guard := none },
                                    { dst := some 76, op := Op.move (Operand.tmp 86), type := 3, pos := "law.go:73",
                                      after := #[{ on := 0, ground := Ground.data }], guard := none }]
                                  false)))).loop)).seq
                  ((Code.region 16
                        #[{ dst := some 87, op := Op.load 24 (Operand.tmp 7), type := 24, pos := "law.go:76",
                            after := #[], guard := none },
                          { dst := some 88,
                            op :=
                              Op.call
                                { callee := Callee.value (Operand.func 13), args := #[Operand.tmp 87],
                                  argTypes := #[24] },
                            type := 31, pos := "law.go:76", after := #[{ on := 0, ground := Ground.data }],
                            guard := none },
                          { dst := some 89,
                            op := Op.binOp BinOp.eql 31 (Operand.tmp 88) (Operand.const (Value.int IntKind.i64 0)) 31,
                            type := 4, pos := "law.go:76", after := #[{ on := 1, ground := Ground.data }],
                            guard := none },
                          { dst := some 90, op := Op.move (Operand.tmp 89), type := 4, pos := "law.go:76",
                            after := #[{ on := 2, ground := Ground.data }, { on := 1, ground := Ground.chain }],
                            guard := none },
                          { dst := some 91, op := Op.load 24 (Operand.tmp 9), type := 24, pos := "law.go:76",
                            after := #[{ on := 3, ground := Ground.guard }], guard := some (3, true) },
                          { dst := some 92,
                            op :=
                              Op.call
                                { callee := Callee.value (Operand.func 13), args := #[Operand.tmp 91],
                                  argTypes := #[24] },
                            type := 31, pos := "law.go:76",
                            after :=
                              #[{ on := 4, ground := Ground.data }, { on := 3, ground := Ground.chain },
                                { on := 3, ground := Ground.guard }],
                            guard := some (3, true) },
                          { dst := some 93,
                            op := Op.binOp BinOp.eql 31 (Operand.tmp 92) (Operand.const (Value.int IntKind.i64 0)) 31,
                            type := 4, pos := "law.go:76",
                            after := #[{ on := 5, ground := Ground.data }, { on := 3, ground := Ground.guard }],
                            guard := some (3, true) },
                          { dst := some 94,
                            op := Op.pick (Operand.tmp 90) (Operand.tmp 93) (Operand.const (Value.bool false)),
                            type := 4, pos := "law.go:76",
                            after := #[{ on := 3, ground := Ground.data }, { on := 6, ground := Ground.data }],
                            guard := none },
                          { dst := some 95, op := Op.move (Operand.tmp 94), type := 4, pos := "law.go:76",
                            after := #[{ on := 7, ground := Ground.data }, { on := 5, ground := Ground.chain }],
                            guard := none },
                          { dst := some 96, op := Op.load 24 (Operand.tmp 7), type := 24, pos := "law.go:76",
                            after := #[{ on := 8, ground := Ground.guard }], guard := some (8, true) },
                          { dst := some 97,
                            op :=
                              Op.call
                                { callee := Callee.value (Operand.func 14), args := #[Operand.tmp 96],
                                  argTypes := #[24] },
                            type := 3, pos := "law.go:76",
                            after :=
                              #[{ on := 9, ground := Ground.data }, { on := 8, ground := Ground.chain },
                                { on := 8, ground := Ground.guard }],
                            guard := some (8, true) },
                          { dst := some 98, op := Op.move (Operand.tmp 11), type := 3, pos := "law.go:76",
                            after := #[{ on := 8, ground := Ground.guard }], guard := some (8, true) },
                          { dst := some 99, op := Op.binOp BinOp.eql 3 (Operand.tmp 97) (Operand.tmp 98) 3, type := 4,
                            pos := "law.go:76",
                            after :=
                              #[{ on := 10, ground := Ground.data }, { on := 11, ground := Ground.data },
                                { on := 8, ground := Ground.guard }],
                            guard := some (8, true) },
                          { dst := some 100,
                            op := Op.pick (Operand.tmp 95) (Operand.tmp 99) (Operand.const (Value.bool false)),
                            type := 4, pos := "law.go:76",
                            after := #[{ on := 8, ground := Ground.data }, { on := 12, ground := Ground.data }],
                            guard := none },
                          { dst := some 101, op := Op.move (Operand.tmp 100), type := 4, pos := "law.go:76",
                            after := #[{ on := 13, ground := Ground.data }, { on := 10, ground := Ground.chain }],
                            guard := none },
                          { dst := some 102, op := Op.load 24 (Operand.tmp 9), type := 24, pos := "law.go:76",
                            after := #[{ on := 14, ground := Ground.guard }], guard := some (14, true) },
                          { dst := some 103,
                            op :=
                              Op.call
                                { callee := Callee.value (Operand.func 14), args := #[Operand.tmp 102],
                                  argTypes := #[24] },
                            type := 3, pos := "law.go:76",
                            after :=
                              #[{ on := 15, ground := Ground.data }, { on := 14, ground := Ground.chain },
                                { on := 14, ground := Ground.guard }],
                            guard := some (14, true) },
                          { dst := some 104, op := Op.load 24 (Operand.tmp 7), type := 24, pos := "law.go:76",
                            after := #[{ on := 14, ground := Ground.guard }], guard := some (14, true) },
                          { dst := some 105,
                            op :=
                              Op.call
                                { callee := Callee.value (Operand.func 14), args := #[Operand.tmp 104],
                                  argTypes := #[24] },
                            type := 3, pos := "law.go:76",
                            after :=
                              #[{ on := 17, ground := Ground.data }, { on := 16, ground := Ground.chain },
                                { on := 14, ground := Ground.guard }],
                            guard := some (14, true) },
                          { dst := some 106, op := Op.load 24 (Operand.tmp 8), type := 24, pos := "law.go:76",
                            after := #[{ on := 14, ground := Ground.guard }], guard := some (14, true) },
                          { dst := some 107,
                            op :=
                              Op.call
                                { callee := Callee.value (Operand.func 14), args := #[Operand.tmp 106],
                                  argTypes := #[24] },
                            type := 3, pos := "law.go:76",
                            after :=
                              #[{ on := 19, ground := Ground.data }, { on := 18, ground := Ground.chain },
                                { on := 14, ground := Ground.guard }],
                            guard := some (14, true) },
                          { dst := some 108, op := Op.binOp BinOp.add 3 (Operand.tmp 105) (Operand.tmp 107) 3,
                            type := 3, pos := "law.go:76",
                            after :=
                              #[{ on := 18, ground := Ground.data }, { on := 20, ground := Ground.data },
                                { on := 14, ground := Ground.guard }],
                            guard := some (14, true) },
                          { dst := some 109, op := Op.binOp BinOp.eql 3 (Operand.tmp 103) (Operand.tmp 108) 3,
                            type := 4, pos := "law.go:76",
                            after :=
                              #[{ on := 16, ground := Ground.data }, { on := 21, ground := Ground.data },
                                { on := 14, ground := Ground.guard }],
                            guard := some (14, true) },
                          { dst := some 110,
                            op := Op.pick (Operand.tmp 101) (Operand.tmp 109) (Operand.const (Value.bool false)),
                            type := 4, pos := "law.go:76",
                            after := #[{ on := 14, ground := Ground.data }, { on := 22, ground := Ground.data }],
                            guard := none },
                          { dst := some 111, op := Op.move (Operand.tmp 110), type := 4, pos := "law.go:76",
                            after := #[{ on := 23, ground := Ground.data }, { on := 20, ground := Ground.chain }],
                            guard := none },
                          { dst := some 112,
                            op := Op.call { callee := Callee.value (Operand.func 9), args := #[], argTypes := #[] },
                            type := 4, pos := "law.go:76",
                            after := #[{ on := 24, ground := Ground.chain }, { on := 24, ground := Ground.guard }],
                            guard := some (24, true) },
                          { dst := some 113,
                            op := Op.pick (Operand.tmp 111) (Operand.tmp 112) (Operand.const (Value.bool false)),
                            type := 4, pos := "law.go:76",
                            after := #[{ on := 24, ground := Ground.data }, { on := 25, ground := Ground.data }],
                            guard := none },
                          { dst := some 6, op := Op.assign (Operand.tmp 113), type := 4, pos := "law.go:76",
                            after :=
                              #[{ on := 26, ground := Ground.data }, { on := 25, ground := Ground.chain },
                                { on := 0, ground := Ground.phase }, { on := 1, ground := Ground.phase },
                                { on := 2, ground := Ground.phase }, { on := 3, ground := Ground.phase },
                                { on := 4, ground := Ground.phase }, { on := 5, ground := Ground.phase },
                                { on := 6, ground := Ground.phase }, { on := 7, ground := Ground.phase },
                                { on := 8, ground := Ground.phase }, { on := 9, ground := Ground.phase },
                                { on := 10, ground := Ground.phase }, { on := 11, ground := Ground.phase },
                                { on := 12, ground := Ground.phase }, { on := 13, ground := Ground.phase },
                                { on := 14, ground := Ground.phase }, { on := 15, ground := Ground.phase },
                                { on := 16, ground := Ground.phase }, { on := 17, ground := Ground.phase },
                                { on := 18, ground := Ground.phase }, { on := 19, ground := Ground.phase },
                                { on := 20, ground := Ground.phase }, { on := 21, ground := Ground.phase },
                                { on := 22, ground := Ground.phase }, { on := 23, ground := Ground.phase },
                                { on := 24, ground := Ground.phase }, { on := 25, ground := Ground.phase },
                                { on := 26, ground := Ground.phase }],
                            guard := none }]
                        true).seq
                    Code.ret))) (bodyPost Try.prog Try.f6 fun e w' => e = .returned (.bool true) ∧ Gr w w') { tmps := #[v0, v1, v2, v3, v4, v5, (.bool false), (.pointer (some ⟨B, 0, none⟩)), (.pointer (some ⟨B + 1, 0, none⟩)), (.pointer (some ⟨B + 1 + 1, 0, none⟩)), v10, v11, v12, v13, v14, v15, v16, v17, v18, v19, v20, v21, v22, v23, v24, v25, v26, v27, v28, v29, v30, v31, v32, v33, v34, v35, v36, v37, v38, v39, v40, v41, v42, v43, v44, v45, v46, v47, v48, v49, v50, v51, v52, v53, v54, v55, v56, v57, v58, v59, v60, v61, v62, v63, v64, v65, v66, v67, v68, v69, v70, v71, v72, v73, undef, undef, undef, undef, undef, undef, undef, undef, undef, undef, undef, undef, undef, undef, undef, undef, undef, undef, undef, undef, undef, undef, undef, undef, undef, undef, undef, undef, undef, undef, undef, undef, undef, undef, undef, undef, undef, undef, undef, undef], defers := [] } wB := by
  have i0 : ∀ w : World, (Instr.index 22 (.agg #[.int .i64 x0, .int .i64 x1, .int .i64 x2, .int .i64 x3, .int .i64 x4]) (.int .i64 0)).run Try.prog w = .ok (.int .i64 x0) w := fun _ => by kernel_rfl
  have i1 : ∀ w : World, (Instr.index 22 (.agg #[.int .i64 x0, .int .i64 x1, .int .i64 x2, .int .i64 x3, .int .i64 x4]) (.int .i64 1)).run Try.prog w = .ok (.int .i64 x1) w := fun _ => by kernel_rfl
  have i2 : ∀ w : World, (Instr.index 22 (.agg #[.int .i64 x0, .int .i64 x1, .int .i64 x2, .int .i64 x3, .int .i64 x4]) (.int .i64 2)).run Try.prog w = .ok (.int .i64 x2) w := fun _ => by kernel_rfl
  have i3 : ∀ w : World, (Instr.index 22 (.agg #[.int .i64 x0, .int .i64 x1, .int .i64 x2, .int .i64 x3, .int .i64 x4]) (.int .i64 3)).run Try.prog w = .ok (.int .i64 x3) w := fun _ => by kernel_rfl
  have i4 : ∀ w : World, (Instr.index 22 (.agg #[.int .i64 x0, .int .i64 x1, .int .i64 x2, .int .i64 x3, .int .i64 x4]) (.int .i64 4)).run Try.prog w = .ok (.int .i64 x4) w := fun _ => by kernel_rfl
  have f0 : wd 0 = 4 := rfl
  have f1 : wd 1 = 8 := rfl
  have f2 : wd 2 = 16 := rfl
  have f3 : wd 3 = 32 := rfl
  have f4 : wd 4 = 64 := rfl
  have c0 := h18.2.1
  have c1 := h18.2.2.1
  have c2 := h18.2.2.2.1
  have c3 := h18.2.2.2.2.1
  have c4 := h18.2.2.2.2.2.1
  have H := Lib.hid h18
  have HX := Lib.hid tX
  have HY := Lib.hid tY
  have HZ := Lib.hid tZ
  have RX := Lib.hid rX
  have RZ := Lib.hid rZ
  clear h18 tX tY tZ rX rZ
  go_wp2
  refine wp_loop_rounds 6 ?_
  rw [rounds_succ]
  go_wp2_with (first | (go_at_call 12; ((with_reducible refine (words_c _ ?_ ?_ _).mono ?_); (first | with_reducible assumption | omega); (first | with_reducible assumption | omega); rintro e w' ⟨rfl, rfl⟩)))
  rw [rounds_succ]
  go_wp2_with (first | (go_at_call 12; ((with_reducible refine (words_c _ ?_ ?_ _).mono ?_); (first | with_reducible assumption | omega); (first | with_reducible assumption | omega); rintro e w' ⟨rfl, rfl⟩)))
  rw [rounds_succ]
  go_wp2_with (first | (go_at_call 12; ((with_reducible refine (words_c _ ?_ ?_ _).mono ?_); (first | with_reducible assumption | omega); (first | with_reducible assumption | omega); rintro e w' ⟨rfl, rfl⟩)))
  rw [rounds_succ]
  go_wp2_with (first | (go_at_call 12; ((with_reducible refine (words_c _ ?_ ?_ _).mono ?_); (first | with_reducible assumption | omega); (first | with_reducible assumption | omega); rintro e w' ⟨rfl, rfl⟩)))
  rw [rounds_succ]
  go_wp2_with (first | (go_at_call 12; ((with_reducible refine (words_c _ ?_ ?_ _).mono ?_); (first | with_reducible assumption | omega); (first | with_reducible assumption | omega); rintro e w' ⟨rfl, rfl⟩)))
  rw [rounds_succ]
  go_wp2_with (first | (go_at_call 12; ((with_reducible refine (words_c _ ?_ ?_ _).mono ?_); (first | with_reducible assumption | omega); (first | with_reducible assumption | omega); rintro e w' ⟨rfl, rfl⟩)))
  refine reg16 x0 x1 x2 x3 x4 x5 y0 y1 y2 y3 y4 y5 z0 z1 z2 z3 z4 z5 (x0 * 4 + x1 * 8 + x2 * 16 + x3 * 32 + x4 * 64) (y0 * 4 + y1 * 8 + y2 * 16 + y3 * 32 + y4 * 64) x0a x0b x1a x1b x2a x2b x3a x3b x4a x4b x5a x5b y0a y0b y1a y1b y2a y2b y3a y3b y4a y4b y5a y5b z0a z0b z1a z1b z2a z2b z3a z3b z4a z4b z5a z5b B _ H.out RX.out RZ.out HX.out HY.out HZ.out (by omega) (by omega) (by omega) (by omega) _ _ _ _ _ _ _ _ _ _ _ _ _ _ _ _ _ _ _ _ _ _ _ _ _ _ _ _ _ _ _ _ _ _ _ _ _ _ _ _ _ _ _ _ _ _ _ _ _ _ _ _ _ _ _ _ _ _ _ _ _ _ _ _ _ _ _ _ _ _ _ _ _ _ _ _ _ _ _ _ _ _ _ _ _ ?_
  intro t87 t88 t89 t90 t91 t92 t93 t94 t95 t96 t97 t98 t99 t100 t101 t102 t103 t104 t105 t106 t107 t108 t109 t110 t111 t112 t113 w' hb
  go_wp2
  go_ret
  exact ⟨rfl, Gr.trans G hb⟩
end Wd
end Go.Proofs.Ytlmdcdpaelblmaa
