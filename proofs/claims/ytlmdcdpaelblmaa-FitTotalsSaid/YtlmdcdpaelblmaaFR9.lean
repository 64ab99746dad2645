/- Two regions of FitTotals. -/
import Derived.Test.YtlmdcdpaelblmaaFKn
import Derived.OpenShut
import Derived.Deep.RegionHeld
namespace Go.Proofs.Ytlmdcdpaelblmaa
open Go.RowKit
namespace Wd
set_option maxHeartbeats 16000000 in
set_option maxRecDepth 100000 in
theorem reg9 (x y z : Int) (x0 : 0 ≤ x) (x1 : x ≤ 1000) (y0 : 0 ≤ y) (y1 : y ≤ 1000) (z0 : 0 ≤ z) (z1 : z ≤ 1000) (B : Nat) (wq : World)
    (cX : wq.cell? ⟨B, 0, none⟩ = some (.int .i64 x)) (cY : wq.cell? ⟨B + 1, 0, none⟩ = some (.int .i64 y)) (cZ : wq.cell? ⟨B + 1 + 1, 0, none⟩ = some (.int .i64 z))
    (fX : wq.frozen? ⟨B, 0, none⟩ = false) (fY : wq.frozen? ⟨B + 1, 0, none⟩ = false) (fZ : wq.frozen? ⟨B + 1 + 1, 0, none⟩ = false)
    (v0 v1 v2 v3 v4 v5 v6 v10 v11 v12 v13 v14 v15 v16 v17 v18 v19 v20 v21 v22 v23 v24 v25 v26 v27 v28 v29 v30 v31 v32 v33 v34 v35 v36 v37 v38 v39 v40 v41 v42 v43 v44 v45 v46 v47 v48 v49 v50 v51 v52 v53 v54 v55 v74 v75 v76 v77 v78 v79 v80 v81 v82 v83 v84 v85 v86 v87 v88 v89 v90 v91 v92 v93 v94 v95 v96 v97 v98 v99 v100 v101 v102 v103 v104 v105 v106 v107 v108 v109 v110 v111 v112 v113 : Value) (K : Act → World → Prop) (fn : Func) (R : Ending → World → Prop)
    (h : ∀ t56 t57 t58 t59 t60 t61 t62 t63 t64 t65 t66 t67 t68 t69 t70 t71 t72 t73 : Value, K { tmps := #[v0, v1, v2, v3, v4, v5, v6, (.pointer (some ⟨B, 0, none⟩)), (.pointer (some ⟨B + 1, 0, none⟩)), (.pointer (some ⟨B + 1 + 1, 0, none⟩)), v10, v11, v12, v13, v14, v15, v16, v17, v18, v19, v20, v21, v22, v23, v24, v25, v26, v27, v28, v29, v30, v31, v32, v33, v34, v35, v36, v37, v38, v39, v40, v41, v42, v43, v44, v45, v46, v47, v48, v49, v50, v51, v52, v53, v54, v55, t56, t57, t58, t59, t60, t61, t62, t63, t64, t65, t66, t67, t68, t69, t70, t71, t72, t73, v74, v75, v76, v77, v78, v79, v80, v81, v82, v83, v84, v85, v86, v87, v88, v89, v90, v91, v92, v93, v94, v95, v96, v97, v98, v99, v100, v101, v102, v103, v104, v105, v106, v107, v108, v109, v110, v111, v112, v113], defers := [] } (((wq.setCell ⟨B, 0, none⟩ (.int .i64 (x + 1))).setCell ⟨B + 1, 0, none⟩ (.int .i64 (y + 1))).setCell ⟨B + 1 + 1, 0, none⟩ (.int .i64 (z + 2))).drew) :
    Code.wp Try.prog (Code.region 9
                  #[{ dst := some 56, op := Op.fieldAddr 24 (Operand.tmp 7) 0, type := 0, pos := "law.go:71",
                      after := #[], guard := none },
                    { dst := some 57, op := Op.indexAddr 22 (Operand.tmp 56) (Operand.const (Value.int IntKind.i64 0)),
                      type := 0, pos := "law.go:71", after := #[{ on := 0, ground := Ground.data }], guard := none },
                    { dst := some 58, op := Op.load 3 (Operand.tmp 57), type := 3, pos := "law.go:71",
                      after := #[{ on := 1, ground := Ground.data }], guard := none },
                    { dst := some 59,
                      op := Op.binOp BinOp.add 3 (Operand.tmp 58) (Operand.const (Value.int IntKind.i64 1)) 3,
                      type := 3, pos := "law.go:71", after := #[{ on := 2, ground := Ground.data }], guard := none },
                    { dst := some 60, op := Op.fieldAddr 24 (Operand.tmp 8) 0, type := 0, pos := "law.go:71",
                      after := #[{ on := 14, ground := Ground.gcOnly Departure.lateStores }], guard := none },
                    { dst := some 61, op := Op.indexAddr 22 (Operand.tmp 60) (Operand.const (Value.int IntKind.i64 0)),
                      type := 0, pos := "law.go:71",
                      after :=
                        #[{ on := 4, ground := Ground.data },
                          { on := 14, ground := Ground.gcOnly Departure.lateStores }],
                      guard := none },
                    { dst := some 62, op := Op.load 3 (Operand.tmp 61), type := 3, pos := "law.go:71",
                      after :=
                        #[{ on := 5, ground := Ground.data },
                          { on := 14, ground := Ground.gcOnly Departure.lateStores }],
                      guard := none },
                    { dst := some 63,
                      op := Op.binOp BinOp.add 3 (Operand.tmp 62) (Operand.const (Value.int IntKind.i64 1)) 3,
                      type := 3, pos := "law.go:71",
                      after :=
                        #[{ on := 6, ground := Ground.data },
                          { on := 14, ground := Ground.gcOnly Departure.lateStores }],
                      guard := none },
                    { dst := some 64, op := Op.fieldAddr 24 (Operand.tmp 9) 0, type := 0, pos := "law.go:71",
                      after := #[{ on := 17, ground := Ground.gcOnly Departure.lateStores }], guard := none },
                    { dst := some 65, op := Op.indexAddr 22 (Operand.tmp 64) (Operand.const (Value.int IntKind.i64 0)),
                      type := 0, pos := "law.go:71",
                      after :=
                        #[{ on := 8, ground := Ground.data },
                          { on := 17, ground := Ground.gcOnly Departure.lateStores }],
                      guard := none },
                    { dst := some 66, op := Op.load 3 (Operand.tmp 65), type := 3, pos := "law.go:71",
                      after :=
                        #[{ on := 9, ground := Ground.data },
                          { on := 17, ground := Ground.gcOnly Departure.lateStores }],
                      guard := none },
                    { dst := some 67,
                      op := Op.binOp BinOp.add 3 (Operand.tmp 66) (Operand.const (Value.int IntKind.i64 2)) 3,
                      type := 3, pos := "law.go:71",
                      after :=
                        #[{ on := 10, ground := Ground.data },
                          { on := 17, ground := Ground.gcOnly Departure.lateStores }],
                      guard := none },
                    { dst := some 68, op := Op.fieldAddr 24 (Operand.tmp 7) 0, type := 0, pos := "law.go:71",
                      after := #[], guard := none },
                    { dst := some 69, op := Op.indexAddr 22 (Operand.tmp 68) (Operand.const (Value.int IntKind.i64 0)),
                      type := 0, pos := "law.go:71",
                      after :=
                        #[{ on := 12, ground := Ground.data }, { on := 0, ground := Ground.phase },
                          { on := 1, ground := Ground.phase }, { on := 2, ground := Ground.phase },
                          { on := 3, ground := Ground.phase },
                          { on := 4, ground := Ground.textOnly Departure.lateStores },
                          { on := 5, ground := Ground.textOnly Departure.lateStores },
                          { on := 6, ground := Ground.textOnly Departure.lateStores },
                          { on := 7, ground := Ground.textOnly Departure.lateStores },
                          { on := 8, ground := Ground.textOnly Departure.lateStores },
                          { on := 9, ground := Ground.textOnly Departure.lateStores },
                          { on := 10, ground := Ground.textOnly Departure.lateStores },
                          { on := 11, ground := Ground.textOnly Departure.lateStores }],
                      guard := none },
                    { dst := none, op := Op.store 3 (Operand.tmp 69) (Operand.tmp 59), type := 0, pos := "law.go:71",
                      after :=
                        #[{ on := 13, ground := Ground.data }, { on := 3, ground := Ground.data },
                          { on := 0, ground := Ground.phase }, { on := 1, ground := Ground.phase },
                          { on := 2, ground := Ground.phase }, { on := 3, ground := Ground.phase },
                          { on := 4, ground := Ground.textOnly Departure.lateStores },
                          { on := 5, ground := Ground.textOnly Departure.lateStores },
                          { on := 6, ground := Ground.textOnly Departure.lateStores },
                          { on := 7, ground := Ground.textOnly Departure.lateStores },
                          { on := 8, ground := Ground.textOnly Departure.lateStores },
                          { on := 9, ground := Ground.textOnly Departure.lateStores },
                          { on := 10, ground := Ground.textOnly Departure.lateStores },
                          { on := 11, ground := Ground.textOnly Departure.lateStores }],
                      guard := none },
                    { dst := some 70, op := Op.fieldAddr 24 (Operand.tmp 8) 0, type := 0, pos := "law.go:71",
                      after := #[], guard := none },
                    { dst := some 71, op := Op.indexAddr 22 (Operand.tmp 70) (Operand.const (Value.int IntKind.i64 0)),
                      type := 0, pos := "law.go:71",
                      after :=
                        #[{ on := 15, ground := Ground.data }, { on := 0, ground := Ground.phase },
                          { on := 1, ground := Ground.phase }, { on := 2, ground := Ground.phase },
                          { on := 3, ground := Ground.phase }, { on := 4, ground := Ground.phase },
                          { on := 5, ground := Ground.phase }, { on := 6, ground := Ground.phase },
                          { on := 7, ground := Ground.phase },
                          { on := 8, ground := Ground.textOnly Departure.lateStores },
                          { on := 9, ground := Ground.textOnly Departure.lateStores },
                          { on := 10, ground := Ground.textOnly Departure.lateStores },
                          { on := 11, ground := Ground.textOnly Departure.lateStores },
                          { on := 12, ground := Ground.phase }, { on := 13, ground := Ground.phase },
                          { on := 14, ground := Ground.phase }],
                      guard := none },
                    { dst := none, op := Op.store 3 (Operand.tmp 71) (Operand.tmp 63), type := 0, pos := "law.go:71",
                      after :=
                        #[{ on := 16, ground := Ground.data }, { on := 7, ground := Ground.data },
                          { on := 14, ground := Ground.chain }, { on := 0, ground := Ground.phase },
                          { on := 1, ground := Ground.phase }, { on := 2, ground := Ground.phase },
                          { on := 3, ground := Ground.phase }, { on := 4, ground := Ground.phase },
                          { on := 5, ground := Ground.phase }, { on := 6, ground := Ground.phase },
                          { on := 7, ground := Ground.phase },
                          { on := 8, ground := Ground.textOnly Departure.lateStores },
                          { on := 9, ground := Ground.textOnly Departure.lateStores },
                          { on := 10, ground := Ground.textOnly Departure.lateStores },
                          { on := 11, ground := Ground.textOnly Departure.lateStores },
                          { on := 12, ground := Ground.phase }, { on := 13, ground := Ground.phase },
                          { on := 14, ground := Ground.phase }],
                      guard := none },
                    { dst := some 72, op := Op.fieldAddr 24 (Operand.tmp 9) 0, type := 0, pos := "law.go:71",
                      after := #[], guard := none },
                    { dst := some 73, op := Op.indexAddr 22 (Operand.tmp 72) (Operand.const (Value.int IntKind.i64 0)),
                      type := 0, pos := "law.go:71",
                      after :=
                        #[{ on := 18, ground := Ground.data }, { on := 0, ground := Ground.phase },
                          { on := 1, ground := Ground.phase }, { on := 2, ground := Ground.phase },
                          { on := 3, ground := Ground.phase }, { on := 4, ground := Ground.phase },
                          { on := 5, ground := Ground.phase }, { on := 6, ground := Ground.phase },
                          { on := 7, ground := Ground.phase }, { on := 8, ground := Ground.phase },
                          { on := 9, ground := Ground.phase }, { on := 10, ground := Ground.phase },
                          { on := 11, ground := Ground.phase }, { on := 12, ground := Ground.phase },
                          { on := 13, ground := Ground.phase }, { on := 14, ground := Ground.phase },
                          { on := 15, ground := Ground.phase }, { on := 16, ground := Ground.phase },
                          { on := 17, ground := Ground.phase }],
                      guard := none },
                    { dst := none, op := Op.store 3 (Operand.tmp 73) (Operand.tmp 67), type := 0, pos := "law.go:71",
                      after :=
                        #[{ on := 19, ground := Ground.data }, { on := 11, ground := Ground.data },
                          { on := 17, ground := Ground.chain }, { on := 0, ground := Ground.phase },
                          { on := 1, ground := Ground.phase }, { on := 2, ground := Ground.phase },
                          { on := 3, ground := Ground.phase }, { on := 4, ground := Ground.phase },
                          { on := 5, ground := Ground.phase }, { on := 6, ground := Ground.phase },
                          { on := 7, ground := Ground.phase }, { on := 8, ground := Ground.phase },
                          { on := 9, ground := Ground.phase }, { on := 10, ground := Ground.phase },
                          { on := 11, ground := Ground.phase }, { on := 12, ground := Ground.phase },
                          { on := 13, ground := Ground.phase }, { on := 14, ground := Ground.phase },
                          { on := 15, ground := Ground.phase }, { on := 16, ground := Ground.phase },
                          { on := 17, ground := Ground.phase }],
                      guard := none }]
                  true) (Exit.then K (bodyPost Try.prog fn R)) { tmps := #[v0, v1, v2, v3, v4, v5, v6, (.pointer (some ⟨B, 0, none⟩)), (.pointer (some ⟨B + 1, 0, none⟩)), (.pointer (some ⟨B + 1 + 1, 0, none⟩)), v10, v11, v12, v13, v14, v15, v16, v17, v18, v19, v20, v21, v22, v23, v24, v25, v26, v27, v28, v29, v30, v31, v32, v33, v34, v35, v36, v37, v38, v39, v40, v41, v42, v43, v44, v45, v46, v47, v48, v49, v50, v51, v52, v53, v54, v55, undef, undef, undef, undef, undef, undef, undef, undef, undef, undef, undef, undef, undef, undef, undef, undef, undef, undef, v74, v75, v76, v77, v78, v79, v80, v81, v82, v83, v84, v85, v86, v87, v88, v89, v90, v91, v92, v93, v94, v95, v96, v97, v98, v99, v100, v101, v102, v103, v104, v105, v106, v107, v108, v109, v110, v111, v112, v113], defers := [] } wq := by
  have wx : IntKind.i64.wrap (x + 1) = x + 1 := by rw [IntKind.wrap_i64]; omega
  have wy : IntKind.i64.wrap (y + 1) = y + 1 := by rw [IntKind.wrap_i64]; omega
  have wz : IntKind.i64.wrap (z + 2) = z + 2 := by rw [IntKind.wrap_i64]; omega
  have h' := Lib.hid h
  clear h
  go_region
  all_goals (first | exact h'.out _ _ _ _ _ _ _ _ _ _ _ _ _ _ _ _ _ _ | (simp only [wx, wy, wz]; exact h'.out _ _ _ _ _ _ _ _ _ _ _ _ _ _ _ _ _ _))
end Wd
end Go.Proofs.Ytlmdcdpaelblmaa
