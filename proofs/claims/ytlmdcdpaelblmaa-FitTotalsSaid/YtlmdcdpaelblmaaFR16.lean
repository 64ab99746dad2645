/- Two regions of FitTotals. -/
import Derived.Test.YtlmdcdpaelblmaaFKn
import Derived.OpenShut
import Derived.Deep.RegionHeld
namespace Go.Proofs.Ytlmdcdpaelblmaa
open Go.RowKit
namespace Wd
theorem held18 {wB w1 w2 : World} {B : Nat} {x0 x1 x2 x3 x4 x5 y0 y1 y2 y3 y4 y5 z0 z1 z2 z3 z4 z5 : Int} (h : Gr wB w1 ∧ w1.cell? ⟨B, 0, none⟩ = some (.int .i64 x0) ∧ w1.cell? ⟨B, 1, none⟩ = some (.int .i64 x1) ∧ w1.cell? ⟨B, 2, none⟩ = some (.int .i64 x2) ∧ w1.cell? ⟨B, 3, none⟩ = some (.int .i64 x3) ∧ w1.cell? ⟨B, 4, none⟩ = some (.int .i64 x4) ∧ w1.cell? ⟨B, 5, none⟩ = some (.int .i64 x5) ∧ w1.cell? ⟨B + 1, 0, none⟩ = some (.int .i64 y0) ∧ w1.cell? ⟨B + 1, 1, none⟩ = some (.int .i64 y1) ∧ w1.cell? ⟨B + 1, 2, none⟩ = some (.int .i64 y2) ∧ w1.cell? ⟨B + 1, 3, none⟩ = some (.int .i64 y3) ∧ w1.cell? ⟨B + 1, 4, none⟩ = some (.int .i64 y4) ∧ w1.cell? ⟨B + 1, 5, none⟩ = some (.int .i64 y5) ∧ w1.cell? ⟨B + 1 + 1, 0, none⟩ = some (.int .i64 z0) ∧ w1.cell? ⟨B + 1 + 1, 1, none⟩ = some (.int .i64 z1) ∧ w1.cell? ⟨B + 1 + 1, 2, none⟩ = some (.int .i64 z2) ∧ w1.cell? ⟨B + 1 + 1, 3, none⟩ = some (.int .i64 z3) ∧ w1.cell? ⟨B + 1 + 1, 4, none⟩ = some (.int .i64 z4) ∧ w1.cell? ⟨B + 1 + 1, 5, none⟩ = some (.int .i64 z5)) (g : Gr w1 w2) : Gr wB w2 ∧ w2.cell? ⟨B, 0, none⟩ = some (.int .i64 x0) ∧ w2.cell? ⟨B, 1, none⟩ = some (.int .i64 x1) ∧ w2.cell? ⟨B, 2, none⟩ = some (.int .i64 x2) ∧ w2.cell? ⟨B, 3, none⟩ = some (.int .i64 x3) ∧ w2.cell? ⟨B, 4, none⟩ = some (.int .i64 x4) ∧ w2.cell? ⟨B, 5, none⟩ = some (.int .i64 x5) ∧ w2.cell? ⟨B + 1, 0, none⟩ = some (.int .i64 y0) ∧ w2.cell? ⟨B + 1, 1, none⟩ = some (.int .i64 y1) ∧ w2.cell? ⟨B + 1, 2, none⟩ = some (.int .i64 y2) ∧ w2.cell? ⟨B + 1, 3, none⟩ = some (.int .i64 y3) ∧ w2.cell? ⟨B + 1, 4, none⟩ = some (.int .i64 y4) ∧ w2.cell? ⟨B + 1, 5, none⟩ = some (.int .i64 y5) ∧ w2.cell? ⟨B + 1 + 1, 0, none⟩ = some (.int .i64 z0) ∧ w2.cell? ⟨B + 1 + 1, 1, none⟩ = some (.int .i64 z1) ∧ w2.cell? ⟨B + 1 + 1, 2, none⟩ = some (.int .i64 z2) ∧ w2.cell? ⟨B + 1 + 1, 3, none⟩ = some (.int .i64 z3) ∧ w2.cell? ⟨B + 1 + 1, 4, none⟩ = some (.int .i64 z4) ∧ w2.cell? ⟨B + 1 + 1, 5, none⟩ = some (.int .i64 z5) := by
  obtain ⟨h, h0, h1, h2, h3, h4, h5, h6, h7, h8, h9, h10, h11, h12, h13, h14, h15, h16, h17⟩ := h
  exact ⟨h.trans g, g.cell h0, g.cell h1, g.cell h2, g.cell h3, g.cell h4, g.cell h5, g.cell h6, g.cell h7, g.cell h8, g.cell h9, g.cell h10, g.cell h11, g.cell h12, g.cell h13, g.cell h14, g.cell h15, g.cell h16, g.cell h17⟩
set_option maxHeartbeats 16000000 in
set_option maxRecDepth 100000 in
theorem reg16 (x0 x1 x2 x3 x4 x5 y0 y1 y2 y3 y4 y5 z0 z1 z2 z3 z4 z5 TX TY : Int) (x0a : 0 ≤ x0) (x0b : x0 ≤ 1000) (x1a : 0 ≤ x1) (x1b : x1 ≤ 1000) (x2a : 0 ≤ x2) (x2b : x2 ≤ 1000) (x3a : 0 ≤ x3) (x3b : x3 ≤ 1000) (x4a : 0 ≤ x4) (x4b : x4 ≤ 1000) (x5a : 0 ≤ x5) (x5b : x5 ≤ 1000) (y0a : 0 ≤ y0) (y0b : y0 ≤ 1000) (y1a : 0 ≤ y1) (y1b : y1 ≤ 1000) (y2a : 0 ≤ y2) (y2b : y2 ≤ 1000) (y3a : 0 ≤ y3) (y3b : y3 ≤ 1000) (y4a : 0 ≤ y4) (y4b : y4 ≤ 1000) (y5a : 0 ≤ y5) (y5b : y5 ≤ 1000) (z0a : 0 ≤ z0) (z0b : z0 ≤ 1000) (z1a : 0 ≤ z1) (z1b : z1 ≤ 1000) (z2a : 0 ≤ z2) (z2b : z2 ≤ 1000) (z3a : 0 ≤ z3) (z3b : z3 ≤ 1000) (z4a : 0 ≤ z4) (z4b : z4 ≤ 1000) (z5a : 0 ≤ z5) (z5b : z5 ≤ 1000) (B : Nat) (wB : World)
    (h18 : Gr wB wB ∧ wB.cell? ⟨B, 0, none⟩ = some (.int .i64 x0) ∧ wB.cell? ⟨B, 1, none⟩ = some (.int .i64 x1) ∧ wB.cell? ⟨B, 2, none⟩ = some (.int .i64 x2) ∧ wB.cell? ⟨B, 3, none⟩ = some (.int .i64 x3) ∧ wB.cell? ⟨B, 4, none⟩ = some (.int .i64 x4) ∧ wB.cell? ⟨B, 5, none⟩ = some (.int .i64 x5) ∧ wB.cell? ⟨B + 1, 0, none⟩ = some (.int .i64 y0) ∧ wB.cell? ⟨B + 1, 1, none⟩ = some (.int .i64 y1) ∧ wB.cell? ⟨B + 1, 2, none⟩ = some (.int .i64 y2) ∧ wB.cell? ⟨B + 1, 3, none⟩ = some (.int .i64 y3) ∧ wB.cell? ⟨B + 1, 4, none⟩ = some (.int .i64 y4) ∧ wB.cell? ⟨B + 1, 5, none⟩ = some (.int .i64 y5) ∧ wB.cell? ⟨B + 1 + 1, 0, none⟩ = some (.int .i64 z0) ∧ wB.cell? ⟨B + 1 + 1, 1, none⟩ = some (.int .i64 z1) ∧ wB.cell? ⟨B + 1 + 1, 2, none⟩ = some (.int .i64 z2) ∧ wB.cell? ⟨B + 1 + 1, 3, none⟩ = some (.int .i64 z3) ∧ wB.cell? ⟨B + 1 + 1, 4, none⟩ = some (.int .i64 z4) ∧ wB.cell? ⟨B + 1 + 1, 5, none⟩ = some (.int .i64 z5))
    (rX : rt x0 x1 x2 x3 x4 x5 = 0) (rZ : rt z0 z1 z2 z3 z4 z5 = 0) (tX : tot x0 x1 x2 x3 x4 x5 = TX) (tY : tot y0 y1 y2 y3 y4 y5 = TY) (tZ : tot z0 z1 z2 z3 z4 z5 = TX + TY) (bX : 0 ≤ TX) (bX' : TX ≤ 1000000) (bY : 0 ≤ TY) (bY' : TY ≤ 1000000)
    (v0 v1 v2 v3 v4 v5 v10 v12 v13 v14 v15 v16 v17 v18 v19 v20 v21 v22 v23 v24 v25 v26 v27 v28 v29 v30 v31 v32 v33 v34 v35 v36 v37 v38 v39 v40 v41 v42 v43 v44 v45 v46 v47 v48 v49 v50 v51 v52 v53 v54 v55 v56 v57 v58 v59 v60 v61 v62 v63 v64 v65 v66 v67 v68 v69 v70 v71 v72 v73 v74 v75 v76 v77 v78 v79 v80 v81 v82 v83 v84 v85 v86 : Value) (K : Act → World → Prop) (fn : Func) (R : Ending → World → Prop)
    (h : ∀ (t87 t88 t89 t90 t91 t92 t93 t94 t95 t96 t97 t98 t99 t100 t101 t102 t103 t104 t105 t106 t107 t108 t109 t110 t111 t112 t113 : Value) (w' : World), Gr wB w' → K { tmps := #[v0, v1, v2, v3, v4, v5, (.bool true), (.pointer (some ⟨B, 0, none⟩)), (.pointer (some ⟨B + 1, 0, none⟩)), (.pointer (some ⟨B + 1 + 1, 0, none⟩)), v10, (.int .i64 TX), v12, v13, v14, v15, v16, v17, v18, v19, v20, v21, v22, v23, v24, v25, v26, v27, v28, v29, v30, v31, v32, v33, v34, v35, v36, v37, v38, v39, v40, v41, v42, v43, v44, v45, v46, v47, v48, v49, v50, v51, v52, v53, v54, v55, v56, v57, v58, v59, v60, v61, v62, v63, v64, v65, v66, v67, v68, v69, v70, v71, v72, v73, v74, v75, v76, v77, v78, v79, v80, v81, v82, v83, v84, v85, v86, t87, t88, t89, t90, t91, t92, t93, t94, t95, t96, t97, t98, t99, t100, t101, t102, t103, t104, t105, t106, t107, t108, t109, t110, t111, t112, t113], defers := [] } w') :
    Code.wp Try.prog (Code.region 16
                        #[{ dst := some 87, op := Op.load 24 (Operand.tmp 7), type := 24, pos := "law.go:76",
                            after := #[], guard := none },
                          { dst := some 88,
                            op :=
                              Op.call
                                { callee := Callee.value (Operand.func 13), args := #[Operand.tmp 87],
                                  argTypes := #[24] },
                            type := 31, pos := "law.go:76", after := #[{ on := 0, ground := Ground.data }],
                            guard := none },
                          { dst := some 89,
                            op := Op.binOp BinOp.eql 31 (Operand.tmp 88) (Operand.const (Value.int IntKind.i64 0)) 31,
                            type := 4, pos := "law.go:76", after := #[{ on := 1, ground := Ground.data }],
                            guard := none },
                          { dst := some 90, op := Op.move (Operand.tmp 89), type := 4, pos := "law.go:76",
                            after := #[{ on := 2, ground := Ground.data }, { on := 1, ground := Ground.chain }],
                            guard := none },
                          { dst := some 91, op := Op.load 24 (Operand.tmp 9), type := 24, pos := "law.go:76",
                            after := #[{ on := 3, ground := Ground.guard }], guard := some (3, true) },
                          { dst := some 92,
                            op :=
                              Op.call
                                { callee := Callee.value (Operand.func 13), args := #[Operand.tmp 91],
                                  argTypes := #[24] },
                            type := 31, pos := "law.go:76",
                            after :=
                              #[{ on := 4, ground := Ground.data }, { on := 3, ground := Ground.chain },
                                { on := 3, ground := Ground.guard }],
                            guard := some (3, true) },
                          { dst := some 93,
                            op := Op.binOp BinOp.eql 31 (Operand.tmp 92) (Operand.const (Value.int IntKind.i64 0)) 31,
                            type := 4, pos := "law.go:76",
                            after := #[{ on := 5, ground := Ground.data }, { on := 3, ground := Ground.guard }],
                            guard := some (3, true) },
                          { dst := some 94,
                            op := Op.pick (Operand.tmp 90) (Operand.tmp 93) (Operand.const (Value.bool false)),
                            type := 4, pos := "law.go:76",
                            after := #[{ on := 3, ground := Ground.data }, { on := 6, ground := Ground.data }],
                            guard := none },
                          { dst := some 95, op := Op.move (Operand.tmp 94), type := 4, pos := "law.go:76",
                            after := #[{ on := 7, ground := Ground.data }, { on := 5, ground := Ground.chain }],
                            guard := none },
                          { dst := some 96, op := Op.load 24 (Operand.tmp 7), type := 24, pos := "law.go:76",
                            after := #[{ on := 8, ground := Ground.guard }], guard := some (8, true) },
                          { dst := some 97,
                            op :=
                              Op.call
                                { callee := Callee.value (Operand.func 14), args := #[Operand.tmp 96],
                                  argTypes := #[24] },
                            type := 3, pos := "law.go:76",
                            after :=
                              #[{ on := 9, ground := Ground.data }, { on := 8, ground := Ground.chain },
                                { on := 8, ground := Ground.guard }],
                            guard := some (8, true) },
                          { dst := some 98, op := Op.move (Operand.tmp 11), type := 3, pos := "law.go:76",
                            after := #[{ on := 8, ground := Ground.guard }], guard := some (8, true) },
                          { dst := some 99, op := Op.binOp BinOp.eql 3 (Operand.tmp 97) (Operand.tmp 98) 3, type := 4,
                            pos := "law.go:76",
                            after :=
                              #[{ on := 10, ground := Ground.data }, { on := 11, ground := Ground.data },
                                { on := 8, ground := Ground.guard }],
                            guard := some (8, true) },
                          { dst := some 100,
                            op := Op.pick (Operand.tmp 95) (Operand.tmp 99) (Operand.const (Value.bool false)),
                            type := 4, pos := "law.go:76",
                            after := #[{ on := 8, ground := Ground.data }, { on := 12, ground := Ground.data }],
                            guard := none },
                          { dst := some 101, op := Op.move (Operand.tmp 100), type := 4, pos := "law.go:76",
                            after := #[{ on := 13, ground := Ground.data }, { on := 10, ground := Ground.chain }],
                            guard := none },
                          { dst := some 102, op := Op.load 24 (Operand.tmp 9), type := 24, pos := "law.go:76",
                            after := #[{ on := 14, ground := Ground.guard }], guard := some (14, true) },
                          { dst := some 103,
                            op :=
                              Op.call
                                { callee := Callee.value (Operand.func 14), args := #[Operand.tmp 102],
                                  argTypes := #[24] },
                            type := 3, pos := "law.go:76",
                            after :=
                              #[{ on := 15, ground := Ground.data }, { on := 14, ground := Ground.chain },
                                { on := 14, ground := Ground.guard }],
                            guard := some (14, true) },
                          { dst := some 104, op := Op.load 24 (Operand.tmp 7), type := 24, pos := "law.go:76",
                            after := #[{ on := 14, ground := Ground.guard }], guard := some (14, true) },
                          { dst := some 105,
                            op :=
                              Op.call
                                { callee := Callee.value (Operand.func 14), args := #[Operand.tmp 104],
                                  argTypes := #[24] },
                            type := 3, pos := "law.go:76",
                            after :=
                              #[{ on := 17, ground := Ground.data }, { on := 16, ground := Ground.chain },
                                { on := 14, ground := Ground.guard }],
                            guard := some (14, true) },
                          { dst := some 106, op := Op.load 24 (Operand.tmp 8), type := 24, pos := "law.go:76",
                            after := #[{ on := 14, ground := Ground.guard }], guard := some (14, true) },
                          { dst := some 107,
                            op :=
                              Op.call
                                { callee := Callee.value (Operand.func 14), args := #[Operand.tmp 106],
                                  argTypes := #[24] },
                            type := 3, pos := "law.go:76",
                            after :=
                              #[{ on := 19, ground := Ground.data }, { on := 18, ground := Ground.chain },
                                { on := 14, ground := Ground.guard }],
                            guard := some (14, true) },
                          { dst := some 108, op := Op.binOp BinOp.add 3 (Operand.tmp 105) (Operand.tmp 107) 3,
                            type := 3, pos := "law.go:76",
                            after :=
                              #[{ on := 18, ground := Ground.data }, { on := 20, ground := Ground.data },
                                { on := 14, ground := Ground.guard }],
                            guard := some (14, true) },
                          { dst := some 109, op := Op.binOp BinOp.eql 3 (Operand.tmp 103) (Operand.tmp 108) 3,
                            type := 4, pos := "law.go:76",
                            after :=
                              #[{ on := 16, ground := Ground.data }, { on := 21, ground := Ground.data },
                                { on := 14, ground := Ground.guard }],
                            guard := some (14, true) },
                          { dst := some 110,
                            op := Op.pick (Operand.tmp 101) (Operand.tmp 109) (Operand.const (Value.bool false)),
                            type := 4, pos := "law.go:76",
                            after := #[{ on := 14, ground := Ground.data }, { on := 22, ground := Ground.data }],
                            guard := none },
                          { dst := some 111, op := Op.move (Operand.tmp 110), type := 4, pos := "law.go:76",
                            after := #[{ on := 23, ground := Ground.data }, { on := 20, ground := Ground.chain }],
                            guard := none },
                          { dst := some 112,
                            op := Op.call { callee := Callee.value (Operand.func 9), args := #[], argTypes := #[] },
                            type := 4, pos := "law.go:76",
                            after := #[{ on := 24, ground := Ground.chain }, { on := 24, ground := Ground.guard }],
                            guard := some (24, true) },
                          { dst := some 113,
                            op := Op.pick (Operand.tmp 111) (Operand.tmp 112) (Operand.const (Value.bool false)),
                            type := 4, pos := "law.go:76",
                            after := #[{ on := 24, ground := Ground.data }, { on := 25, ground := Ground.data }],
                            guard := none },
                          { dst := some 6, op := Op.assign (Operand.tmp 113), type := 4, pos := "law.go:76",
                            after :=
                              #[{ on := 26, ground := Ground.data }, { on := 25, ground := Ground.chain },
                                { on := 0, ground := Ground.phase }, { on := 1, ground := Ground.phase },
                                { on := 2, ground := Ground.phase }, { on := 3, ground := Ground.phase },
                                { on := 4, ground := Ground.phase }, { on := 5, ground := Ground.phase },
                                { on := 6, ground := Ground.phase }, { on := 7, ground := Ground.phase },
                                { on := 8, ground := Ground.phase }, { on := 9, ground := Ground.phase },
                                { on := 10, ground := Ground.phase }, { on := 11, ground := Ground.phase },
                                { on := 12, ground := Ground.phase }, { on := 13, ground := Ground.phase },
                                { on := 14, ground := Ground.phase }, { on := 15, ground := Ground.phase },
                                { on := 16, ground := Ground.phase }, { on := 17, ground := Ground.phase },
                                { on := 18, ground := Ground.phase }, { on := 19, ground := Ground.phase },
                                { on := 20, ground := Ground.phase }, { on := 21, ground := Ground.phase },
                                { on := 22, ground := Ground.phase }, { on := 23, ground := Ground.phase },
                                { on := 24, ground := Ground.phase }, { on := 25, ground := Ground.phase },
                                { on := 26, ground := Ground.phase }],
                            guard := none }]
                        true) (Exit.then K (bodyPost Try.prog fn R)) { tmps := #[v0, v1, v2, v3, v4, v5, (.bool false), (.pointer (some ⟨B, 0, none⟩)), (.pointer (some ⟨B + 1, 0, none⟩)), (.pointer (some ⟨B + 1 + 1, 0, none⟩)), v10, (.int .i64 TX), v12, v13, v14, v15, v16, v17, v18, v19, v20, v21, v22, v23, v24, v25, v26, v27, v28, v29, v30, v31, v32, v33, v34, v35, v36, v37, v38, v39, v40, v41, v42, v43, v44, v45, v46, v47, v48, v49, v50, v51, v52, v53, v54, v55, v56, v57, v58, v59, v60, v61, v62, v63, v64, v65, v66, v67, v68, v69, v70, v71, v72, v73, v74, v75, v76, v77, v78, v79, v80, v81, v82, v83, v84, v85, v86, undef, undef, undef, undef, undef, undef, undef, undef, undef, undef, undef, undef, undef, undef, undef, undef, undef, undef, undef, undef, undef, undef, undef, undef, undef, undef, undef], defers := [] } wB := by
  have wT : IntKind.i64.wrap (TX + TY) = TX + TY := by rw [IntKind.wrap_i64]; omega
  have wT' : wrap64 (TX + TY) = TX + TY := IntWalk.wrap64_in _ (by omega)
  have h' := Lib.hid h
  clear h
  go_region_held (fun w' => Gr wB w' ∧ w'.cell? ⟨B, 0, none⟩ = some (.int .i64 x0) ∧ w'.cell? ⟨B, 1, none⟩ = some (.int .i64 x1) ∧ w'.cell? ⟨B, 2, none⟩ = some (.int .i64 x2) ∧ w'.cell? ⟨B, 3, none⟩ = some (.int .i64 x3) ∧ w'.cell? ⟨B, 4, none⟩ = some (.int .i64 x4) ∧ w'.cell? ⟨B, 5, none⟩ = some (.int .i64 x5) ∧ w'.cell? ⟨B + 1, 0, none⟩ = some (.int .i64 y0) ∧ w'.cell? ⟨B + 1, 1, none⟩ = some (.int .i64 y1) ∧ w'.cell? ⟨B + 1, 2, none⟩ = some (.int .i64 y2) ∧ w'.cell? ⟨B + 1, 3, none⟩ = some (.int .i64 y3) ∧ w'.cell? ⟨B + 1, 4, none⟩ = some (.int .i64 y4) ∧ w'.cell? ⟨B + 1, 5, none⟩ = some (.int .i64 y5) ∧ w'.cell? ⟨B + 1 + 1, 0, none⟩ = some (.int .i64 z0) ∧ w'.cell? ⟨B + 1 + 1, 1, none⟩ = some (.int .i64 z1) ∧ w'.cell? ⟨B + 1 + 1, 2, none⟩ = some (.int .i64 z2) ∧ w'.cell? ⟨B + 1 + 1, 3, none⟩ = some (.int .i64 z3) ∧ w'.cell? ⟨B + 1 + 1, 4, none⟩ = some (.int .i64 z4) ∧ w'.cell? ⟨B + 1 + 1, 5, none⟩ = some (.int .i64 z5)) (first | assumption | exact held18 (by assumption) hb | exact held18 h18 (Gr.drew (Gr.refl _))) (first | (go_at_call 9; ((with_reducible refine (known_c _).mono ?_); rintro e w' ⟨rfl, hb⟩)) | (go_at_call 13; ((with_reducible refine (right_g _ _ _ _ _ _ ?_ ?_ ?_ ?_ ?_ ?_ ?_ ?_ ?_ ?_ ?_ ?_ _).mono ?_); (first | with_reducible assumption | omega); (first | with_reducible assumption | omega); (first | with_reducible assumption | omega); (first | with_reducible assumption | omega); (first | with_reducible assumption | omega); (first | with_reducible assumption | omega); (first | with_reducible assumption | omega); (first | with_reducible assumption | omega); (first | with_reducible assumption | omega); (first | with_reducible assumption | omega); (first | with_reducible assumption | omega); (first | with_reducible assumption | omega); rintro e w' ⟨rfl, hb⟩)) | (go_at_call 14; ((with_reducible refine (total_g _ _ _ _ _ _ ?_ ?_ ?_ ?_ ?_ ?_ ?_ ?_ ?_ ?_ ?_ ?_ _).mono ?_); (first | with_reducible assumption | omega); (first | with_reducible assumption | omega); (first | with_reducible assumption | omega); (first | with_reducible assumption | omega); (first | with_reducible assumption | omega); (first | with_reducible assumption | omega); (first | with_reducible assumption | omega); (first | with_reducible assumption | omega); (first | with_reducible assumption | omega); (first | with_reducible assumption | omega); (first | with_reducible assumption | omega); (first | with_reducible assumption | omega); rintro e w' ⟨rfl, hb⟩)))
  all_goals exact h'.out _ _ _ _ _ _ _ _ _ _ _ _ _ _ _ _ _ _ _ _ _ _ _ _ _ _ _ _ (And.left (by assumption))
end Wd
end Go.Proofs.Ytlmdcdpaelblmaa
