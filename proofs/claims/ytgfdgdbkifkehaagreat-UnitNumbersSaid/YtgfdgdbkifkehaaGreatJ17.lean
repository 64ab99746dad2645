/- Texts joined: UTL. -/
import Derived.Test.YtgfdgdbkifkehaaGreatJ1
import Derived.Test.YtgfdgdbkifkehaaGreatJ12
import Derived.Test.YtgfdgdbkifkehaaGreatJ14
import Derived.Test.YtgfdgdbkifkehaaGreatJ16
/- UnitTells: programs are judged as the document says. -/
namespace Go.Proofs.YtgfdgdbkifkehaaGreat
open Go.RowKit
set_option linter.unusedVariables false
set_option maxRecDepth 20000
namespace Wd
theorem umask31 (n : Int) : bits .and .i64 n 31 = n % 32 := by
  have h127 : (BitVec.ofInt 64 31).toNat = 2 ^ 5 - 1 := by decide
  have key : (BitVec.ofInt 64 n &&& BitVec.ofInt 64 31).toNat = (n % ((2 ^ 64 : Nat) : Int)).toNat % 2 ^ 5 := by
    rw [BitVec.toNat_and, BitVec.toNat_ofInt, h127, Nat.and_two_pow_sub_one_eq_mod]
  show IntKind.i64.wrap ((BitVec.ofInt 64 n &&& BitVec.ofInt 64 31).toNat : Nat) = n % 32
  rw [key, IntKind.wrap_i64]
  omega
/-- a raw program's rows are not too long -/
structure SzR (U : UnitA) : Prop where
  bs : ∀ c ∈ U.classes, c.binds.length ≤ 8796093022208
  ms : ∀ m ∈ U.methods, m.lits.length ≤ 8796093022208 ∧ m.code.length ≤ 140737488355328
  os : ∀ o ∈ U.objects, o.flds.length ≤ 8796093022208
  ns : ∀ x ∈ U.names, x.size ≤ 140737488355328
  cs : ∀ x ∈ U.classes, x.nm.size ≤ 140737488355328
theorem SzR.few {U : UnitA} (h : SzR U) : Sz (fewU U) :=
  ⟨by show (U.names.take 8).length ≤ _; rw [List.length_take]; omega, by show (U.classes.take 5).length ≤ _; rw [List.length_take]; omega, by show (U.methods.take 4).length ≤ _; rw [List.length_take]; omega, by show (U.objects.take 6).length ≤ _; rw [List.length_take]; omega,
    fun c hc => h.bs c (List.mem_of_mem_take hc), fun c hc => h.ms c (List.mem_of_mem_take hc), fun c hc => h.os c (List.mem_of_mem_take hc), fun c hc => h.ns c (List.mem_of_mem_take hc), fun c hc => h.cs c (List.mem_of_mem_take hc)⟩
theorem Zb.sz {U : UnitA} {b : Nat} (h : Zb b U) (hb : b ≤ 100000) : Sz U :=
  ⟨by have := h.n; omega, by have := h.c; omega, by have := h.m; omega, by have := h.o; omega, fun c hc => by have := h.cb c hc; omega, fun c hc => by have := h.mb c hc; omega, fun c hc => by have := h.ob c hc; omega, h.ns, h.cs⟩
/-- a tape's program, the raw one that was cut, each in its box -/
structure TlS (w wr : World) (Q Q2 : Nat) (U X : UnitA) (na ka ma oa : Option Addr) (nc kc mc oc : Nat) (xn xk xm xo : Option Addr) (xnc xkc xmc xoc : Nat) : Prop where
  t : TpB w wr Q U na ka ma oa nc kc mc oc 6
  x : UnB wr Q2 (.agg #[.slice xn X.names.length xnc, .slice xk X.classes.length xkc, .slice xm X.methods.length xmc, .slice xo X.objects.length xoc, .int .i64 X.main]) X xn xk xm xo xnc xkc xmc xoc
theorem TlS.up {w w1 w2 : World} {Q Q2 : Nat} {U X : UnitA} {na ka ma oa : Option Addr} {nc kc mc oc : Nat} {xn xk xm xo : Option Addr} {xnc xkc xmc xoc : Nat} (h : TlS w w1 Q Q2 U X na ka ma oa nc kc mc oc xn xk xm xo xnc xkc xmc xoc) (b : Below w1.heap.size w1 w2) : TlS w w2 Q Q2 U X na ka ma oa nc kc mc oc xn xk xm xo xnc xkc xmc xoc := ⟨h.t.up b, h.x.up b⟩
theorem TpB.k6' {w wr : World} {Q : Nat} {U : UnitA} {na ka ma oa : Option Addr} {nc kc mc oc : Nat} (h : TpB w wr Q U na ka ma oa nc kc mc oc 6) : UnK wr (.agg #[.slice na 6 nc, .slice ka U.classes.length kc, .slice ma 9 mc, .slice oa U.objects.length oc, .int .i64 6]) U := by
  have := h.unk
  rwa [show ({ U with main := 6 } : UnitA) = U by have := h.ta.main; cases U; simp_all] at this
set_option maxHeartbeats 64000000 in
theorem utells_any (K : UnitK) {w : World} {raw : Value} {R : UnitA} {ad : Option Addr} {n cap : Nat} (HA : NumA w ad n) (hn : n ≤ 4611686018427387904) (what at_ x : Int) (hw : In64 what) (ha : In64 at_) (hx : In64 x) (hR : UnK w raw R) (hz : SzR R) (cls sel : Int) (hc : In64 cls) (hs : In64 sel) :
    Calls Tryz.prog 4 #[.slice ad n cap, .int .i64 what, .int .i64 at_, .int .i64 x, raw, .int .i64 cls, .int .i64 sel] w fun e w' => e = .returned (.bool true) ∧ Below w.heap.size w w' := by
  obtain ⟨rn, rnc, rk, rkc, rm, rmc, ro, roc, rfl, hRu⟩ := hR.ex
  have hB0 := (Below.refl w.heap.size w).alloc (Nat.le_refl _) (.cells #[.slice rn R.names.length rnc, .slice rk R.classes.length rkc, .slice rm R.methods.length rmc, .slice ro R.objects.length roc, .int .i64 R.main] 27)
  have hR0 := Lib.hid (UnB.born hR)
  have HA0 := HA.up hB0
  have PN := Lib.hid (fun w => uknown_c K w)
  have hzx := Lib.hid hz.few
  obtain ⟨p7, hp7, b7⟩ : ∃ p, bits .and .i64 cls 7 = p ∧ (0 ≤ p ∧ p < 8) := ⟨_, rfl, by rw [umask7]; omega⟩
  obtain ⟨s7, hs7, d7⟩ : ∃ p, bits .and .i64 sel 7 = p ∧ (0 ≤ p ∧ p < 8) := ⟨_, rfl, by rw [umask7]; omega⟩
  obtain ⟨a31, ha31, b31⟩ : ∃ p, bits .and .i64 at_ 31 = p ∧ (0 ≤ p ∧ p < 32) := ⟨_, rfl, by rw [umask31]; omega⟩
  obtain ⟨x31, hx31, c31⟩ : ∃ p, bits .and .i64 x 31 = p ∧ (0 ≤ p ∧ p < 32) := ⟨_, rfl, by rw [umask31]; omega⟩
  obtain ⟨x15, hx15, c15⟩ : ∃ p, bits .and .i64 x 15 = p ∧ (0 ≤ p ∧ p < 16) := ⟨_, rfl, by rw [umask15]; omega⟩
  obtain ⟨w15, hw15, e15⟩ : ∃ p, bits .and .i64 what 15 = p ∧ (0 ≤ p ∧ p < 16) := ⟨_, rfl, by rw [umask15]; omega⟩
  have wp : IntKind.i64.wrap (p7 - 1) = p7 - 1 := by rw [IntKind.wrap_i64]; omega
  have ws : IntKind.i64.wrap (s7 - 1) = s7 - 1 := by rw [IntKind.wrap_i64]; omega
  clear hR hRu HA hz
  go_enter Tryz.func4, Tryz.ntmps4
  simp only [List.append_eq, List.cons_append, List.nil_append]
  go_upto_region 1 with fail
  generalize w.alloc (.cells #[.slice rn R.names.length rnc, .slice rk R.classes.length rkc, .slice rm R.methods.length rmc, .slice ro R.objects.length roc, .int .i64 R.main] 27) = W0 at *
  have PU := Lib.hid (unit_c (tape_tp (cap := cap) HA0 hn))
  go_wp2_with fail
  with_reducible refine PU.out.mono ?_
  rintro e wu ⟨nv, cv, mv, ov, rfl, U, hU, hT, _, hcg, _⟩
  have hBu := unit_bel hcg
  obtain ⟨na, nc, ka, kc, ma, mc, oa, oc, rfl, rfl, rfl, rfl, hS⟩ := tpb_born hU hT (hB0.trans (hBu.mono hB0.size))
  have hBa := hBu.trans (((Below.refl _ _).alloc (Nat.le_refl _) (.cells #[.slice na 6 nc, .slice ka U.classes.length kc, .slice ma 9 mc, .slice oa U.objects.length oc, .int .i64 6] 27)).mono hBu.size)
  replace hR0 := Lib.hid (hR0.out.up hBa)
  have hzu := Lib.hid hT.zb
  clear PU hcg hU hBu hBa HA0 hB0
  replace hS := Lib.hid hS
  go_upto_region 2 with fail
  generalize wu.alloc (.cells #[.slice na 6 nc, .slice ka U.classes.length kc, .slice ma 9 mc, .slice oa U.objects.length oc, .int .i64 6] 27) = W at *
  obtain ⟨Q, hQ⟩ : ∃ Q, Q = wu.heap.size := ⟨_, rfl⟩
  rw [← hQ] at hS ⊢
  clear hQ
  have r0 := hR0.out.c0
  have r1 := hR0.out.c1
  have r2 := hR0.out.c2
  have r3 := hR0.out.c3
  have r4 := hR0.out.c4
  have PX := Lib.hid (few_c hR0.out.un)
  go_wp2_with fail
  with_reducible refine PX.out.mono ?_
  rintro e wx ⟨v, rfl, hX, hb⟩
  replace hS := Lib.hid (hS.out.up hb)
  clear r0 r1 r2 r3 r4 hR0 PX hb
  generalize fewU R = X at *
  obtain ⟨xn, xnc, xk, xkc, xm, xmc, xo, xoc, rfl, _⟩ := hX.ex
  have hX1 := UnB.born hX
  replace hS := hS.out.up ((Below.refl _ _).alloc (Nat.le_refl _) (.cells #[.slice xn X.names.length xnc, .slice xk X.classes.length xkc, .slice xm X.methods.length xmc, .slice xo X.objects.length xoc, .int .i64 X.main] 27))
  obtain ⟨Q2, hQ2⟩ : ∃ Q2, Q2 = wx.heap.size := ⟨_, rfl⟩
  rw [← hQ2] at hX1
  have hL : Hid (TlS w (wx.alloc (.cells #[.slice xn X.names.length xnc, .slice xk X.classes.length xkc, .slice xm X.methods.length xmc, .slice xo X.objects.length xoc, .int .i64 X.main] 27)) Q Q2 U X na ka ma oa nc kc mc oc xn xk xm xo xnc xkc xmc xoc) := Lib.hid ⟨hS, hX1⟩
  clear hS hX1 hX
  go_upto_region 3 with fail
  rw [← hQ2]
  clear hQ2
  generalize wx.alloc (.cells #[.slice xn X.names.length xnc, .slice xk X.classes.length xkc, .slice xm X.methods.length xmc, .slice xo X.objects.length xoc, .int .i64 X.main] 27) = WX at *
  obtain ⟨dU, hdU, hrU⟩ := rowU
  replace hdU := Lib.hid hdU
  replace hrU := Lib.hid hrU
  replace hL := Lib.hid (hL.out.up ((Below.refl _ _).drew))
  have P1 := Lib.hid (fun (w' : World) (h : UnK w' (.agg #[.slice na 6 nc, .slice ka U.classes.length kc, .slice ma 9 mc, .slice oa U.objects.length oc, .int .i64 6]) U) => usame_c K h (hzu.out.sz (by omega)) (p7 - 1) (s7 - 1) (in64_of (by omega) (by omega)) (in64_of (by omega) (by omega)))
  have P2 := Lib.hid (fun (w' : World) (h : UnK w' (.agg #[.slice na 6 nc, .slice ka U.classes.length kc, .slice ma 9 mc, .slice oa U.objects.length oc, .int .i64 6]) U) => oddu_c h hzu.out (by omega) what at_ x hw ha hx)
  have P4 := Lib.hid (fun (w' : World) (h : UnK w' (.agg #[.slice na 6 nc, .slice ka U.classes.length kc, .slice ma 9 mc, .slice oa U.objects.length oc, .int .i64 6]) U) => oddu_c h hzu.out (by omega) what a31 x31 hw (in64_of (by omega) (by omega)) (in64_of (by omega) (by omega)))
  have P5 := Lib.hid (fun (w' : World) (h : UnK w' (.agg #[.slice na 6 nc, .slice ka U.classes.length kc, .slice ma 9 mc, .slice oa U.objects.length oc, .int .i64 6]) U) => oddu_c h hzu.out (by omega) what a31 x15 hw (in64_of (by omega) (by omega)) (in64_of (by omega) (by omega)))
  have P6 := Lib.hid (fun (w' : World) (v : Value) (V : UnitA) (h : UnK w' v V) (hz : Zb 350 V) => oddu_c h hz (by omega) x a31 w15 hx (in64_of (by omega) (by omega)) (in64_of (by omega) (by omega)))
  have P3 := Lib.hid (fun (w' : World) (v : Value) (V : UnitA) (h : UnK w' v V) (hz : Zb 350 V) => usame_c K h (hz.sz (by omega)) cls sel hc hs)
  have P7 := Lib.hid (fun (w' : World) (v : Value) (V : UnitA) (h : UnK w' v V) (hz : Zb 350 V) => usame_c K h (hz.sz (by omega)) p7 s7 (in64_of (by omega) (by omega)) (in64_of (by omega) (by omega)))
  have P8 := Lib.hid (fun (w' : World) (v : Value) (V : UnitA) (h : UnK w' v V) (hz : Zb 400 V) => usame_c K h (hz.sz (by omega)) 1 2 (in64_of (by omega) (by omega)) (in64_of (by omega) (by omega)))
  have P9 := Lib.hid (fun (w' : World) (h : UnK w' (.agg #[.slice xn X.names.length xnc, .slice xk X.classes.length xkc, .slice xm X.methods.length xmc, .slice xo X.objects.length xoc, .int .i64 X.main]) X) => usame_c K h hzx.out cls sel hc hs)
  have PS := Lib.hid (fun (w' : World) (h : UnK w' (.agg #[.slice na 6 nc, .slice ka U.classes.length kc, .slice ma 9 mc, .slice oa U.objects.length oc, .int .i64 6]) U) (h2 : UnK w' (.agg #[.slice xn X.names.length xnc, .slice xk X.classes.length xkc, .slice xm X.methods.length xmc, .slice xo X.objects.length xoc, .int .i64 X.main]) X) => K.same h h2)
  have PS2 := Lib.hid (fun (w' : World) (h : UnK w' (.agg #[.slice na 6 nc, .slice ka U.classes.length kc, .slice ma 9 mc, .slice oa U.objects.length oc, .int .i64 6]) U) (h2 : UnK w' (.agg #[.slice xn X.names.length xnc, .slice xk X.classes.length xkc, .slice xm X.methods.length xmc, .slice xo X.objects.length xoc, .int .i64 X.main]) X) => rsame_c h h2)
  generalize sameU U X = sb at *
  clear hzu hzx hw ha hx hc hs b7 d7 b31 c31 c15 e15 hT
  refine wp_region_held_drew (S := (fun wr' => TlS w wr' Q Q2 U X na ka ma oa nc kc mc oc xn xk xm xo xnc xkc xmc xoc)) (by kernel_rfl) ?_ (fun hHeld => ?_)
  · (try dsimp only); exact hL.out
  try simp only [Act.put, nA]
  refine tr (i := 0) (oi := ⟨some 23, .load 27 (.tmp 15), 27, "law.go:110", #[], none⟩) (v := (.agg #[.slice na 6 nc, .slice ka U.classes.length kc, .slice ma 9 mc, .slice oa U.objects.length oc, .int .i64 6])) (yieldsIf_load_mid (by rfl) _ _ rfl Q 0 rfl [.slice na 6 nc, .slice ka U.classes.length kc, .slice ma 9 mc, .slice oa U.objects.length oc, .int .i64 6] dU (fun w hw => hw.t.rg) hdU.out hrU.out infoU) ?_
  try simp only [Act.put, nA]
  refine tk (i := 1) (oi := ⟨some 24, .move (.tmp 5), 3, "law.go:110", #[], none⟩) ?_
  try simp only [Act.put, nA]
  refine tk (i := 2) (oi := ⟨some 25, .binOp .and 3 (.tmp 24) (.const (.int .i64 7)) 3, 3, "law.go:110", #[⟨1, .data⟩], none⟩) ?_
  try simp only [Act.put, nA]
  refine tk (i := 3) (oi := ⟨some 26, .binOp .sub 3 (.tmp 25) (.const (.int .i64 1)) 3, 3, "law.go:110", #[⟨2, .data⟩], none⟩) ?_
  try simp only [Act.put, nA]
  refine tk (i := 4) (oi := ⟨some 27, .move (.tmp 6), 3, "law.go:110", #[], none⟩) ?_
  try simp only [Act.put, nA]
  refine tk (i := 5) (oi := ⟨some 28, .binOp .and 3 (.tmp 27) (.const (.int .i64 7)) 3, 3, "law.go:110", #[⟨4, .data⟩], none⟩) ?_
  try simp only [Act.put, nA]
  refine tk (i := 6) (oi := ⟨some 29, .binOp .sub 3 (.tmp 28) (.const (.int .i64 1)) 3, 3, "law.go:110", #[⟨5, .data⟩], none⟩) ?_
  try simp only [Act.put, nA]
  refine wpAnyH_ready (rs := [7]) (by kernel_rfl) (by simp) ?_
  refine AllReadyH.cons (o := ⟨some 30, .call { callee := .value (.func 8), args := #[.tmp 23, .tmp 26, .tmp 29], argTypes := #[27, 3, 3] }, 4, "law.go:110", #[⟨0, .data⟩, ⟨3, .data⟩, ⟨6, .data⟩], none⟩) rfl (fun K9 hK => ?_) ?_
  · go_simp
    with_reducible refine (P1.out _ hL.out.t.k6').mono ?_
    rintro e y1 ⟨rfl, hb⟩
    replace hL := Lib.hid (hL.out.up hb)
    clear hb
    go_wp2_with fail
    refine hK.out _ _ ?_ ?_
    · (try dsimp only); exact hL.out
    clear hK K9 hHeld; intro hHeld
    try simp only [Act.put, nA]
    refine tk (i := 8) (oi := ⟨some 31, .move (.tmp 30), 4, "law.go:110", #[⟨7, .data⟩, ⟨7, .chain⟩], none⟩) ?_
    try simp only [Act.put, nA]
    refine tr (i := 9) (oi := ⟨some 32, .load 27 (.tmp 15), 27, "law.go:110", #[⟨8, .guard⟩], some (8, true)⟩) (v := (.agg #[.slice na 6 nc, .slice ka U.classes.length kc, .slice ma 9 mc, .slice oa U.objects.length oc, .int .i64 6])) (yieldsIf_load_mid (by rfl) _ _ rfl Q 0 rfl [.slice na 6 nc, .slice ka U.classes.length kc, .slice ma 9 mc, .slice oa U.objects.length oc, .int .i64 6] dU (fun w hw => hw.t.rg) hdU.out hrU.out infoU) ?_
    try simp only [Act.put, nA]
    refine tk (i := 10) (oi := ⟨some 33, .move (.tmp 1), 3, "law.go:110", #[⟨8, .guard⟩], some (8, true)⟩) ?_
    try simp only [Act.put, nA]
    refine tk (i := 11) (oi := ⟨some 34, .move (.tmp 2), 3, "law.go:110", #[⟨8, .guard⟩], some (8, true)⟩) ?_
    try simp only [Act.put, nA]
    refine tk (i := 12) (oi := ⟨some 35, .move (.tmp 3), 3, "law.go:110", #[⟨8, .guard⟩], some (8, true)⟩) ?_
    try simp only [Act.put, nA]
    refine tk (i := 14) (oi := ⟨some 37, .move (.tmp 5), 3, "law.go:110", #[⟨8, .guard⟩], some (8, true)⟩) ?_
    try simp only [Act.put, nA]
    refine tk (i := 15) (oi := ⟨some 38, .move (.tmp 6), 3, "law.go:110", #[⟨8, .guard⟩], some (8, true)⟩) ?_
    try simp only [Act.put, nA]
    refine wpAnyH_ready (rs := [13]) (by kernel_rfl) (by simp) ?_
    refine AllReadyH.cons (o := ⟨some 36, .call { callee := .value (.func 9), args := #[.tmp 32, .tmp 33, .tmp 34, .tmp 35], argTypes := #[27, 3, 3, 3] }, 27, "law.go:110", #[⟨9, .data⟩, ⟨10, .data⟩, ⟨11, .data⟩, ⟨12, .data⟩, ⟨8, .chain⟩, ⟨8, .guard⟩], some (8, true)⟩) rfl (fun K9 hK => ?_) ?_
    · go_simp
      with_reducible refine (P2.out _ hL.out.t.k6').mono ?_
      rintro e y1 ⟨v1, V1, rfl, hv1, hz1, hb⟩
      replace hL := Lib.hid (hL.out.up hb)
      replace hv1 := Lib.hid hv1
      replace hz1 := Lib.hid hz1
      clear hb
      go_wp2_with fail
      refine hK.out _ _ ?_ ?_
      · (try dsimp only); exact hL.out
      clear hK K9 hHeld; intro hHeld
      try simp only [Act.put, nA]
      refine wpAnyH_ready (rs := [16]) (by kernel_rfl) (by simp) ?_
      refine AllReadyH.cons (o := ⟨some 39, .call { callee := .value (.func 8), args := #[.tmp 36, .tmp 37, .tmp 38], argTypes := #[27, 3, 3] }, 4, "law.go:110", #[⟨13, .data⟩, ⟨14, .data⟩, ⟨15, .data⟩, ⟨13, .chain⟩, ⟨8, .guard⟩], some (8, true)⟩) rfl (fun K9 hK => ?_) ?_
      · go_simp
        with_reducible refine (P3.out _ _ _ hv1.out hz1.out).mono ?_
        rintro e y1 ⟨rfl, hb⟩
        replace hL := Lib.hid (hL.out.up hb)
        clear hb
        go_wp2_with fail
        refine hK.out _ _ ?_ ?_
        · (try dsimp only); exact hL.out
        clear hK K9 hHeld; intro hHeld
        try simp only [Act.put, nA]
        refine tk (i := 17) (oi := ⟨some 40, .pick (.tmp 31) (.tmp 39) (.const (.bool false)), 4, "law.go:110", #[⟨8, .data⟩, ⟨16, .data⟩], none⟩) ?_
        try simp only [Act.put, nA]
        refine tk (i := 18) (oi := ⟨some 41, .move (.tmp 40), 4, "law.go:110", #[⟨17, .data⟩, ⟨16, .chain⟩], none⟩) ?_
        try simp only [Act.put, nA]
        refine tr (i := 19) (oi := ⟨some 42, .load 27 (.tmp 15), 27, "law.go:110", #[⟨18, .guard⟩], some (18, true)⟩) (v := (.agg #[.slice na 6 nc, .slice ka U.classes.length kc, .slice ma 9 mc, .slice oa U.objects.length oc, .int .i64 6])) (yieldsIf_load_mid (by rfl) _ _ rfl Q 0 rfl [.slice na 6 nc, .slice ka U.classes.length kc, .slice ma 9 mc, .slice oa U.objects.length oc, .int .i64 6] dU (fun w hw => hw.t.rg) hdU.out hrU.out infoU) ?_
        try simp only [Act.put, nA]
        refine tk (i := 20) (oi := ⟨some 43, .move (.tmp 1), 3, "law.go:110", #[⟨18, .guard⟩], some (18, true)⟩) ?_
        try simp only [Act.put, nA]
        refine tk (i := 21) (oi := ⟨some 44, .move (.tmp 2), 3, "law.go:110", #[⟨18, .guard⟩], some (18, true)⟩) ?_
        try simp only [Act.put, nA]
        refine tk (i := 22) (oi := ⟨some 45, .binOp .and 3 (.tmp 44) (.const (.int .i64 31)) 3, 3, "law.go:110", #[⟨21, .data⟩, ⟨18, .guard⟩], some (18, true)⟩) ?_
        try simp only [Act.put, nA]
        refine tk (i := 23) (oi := ⟨some 46, .move (.tmp 3), 3, "law.go:110", #[⟨18, .guard⟩], some (18, true)⟩) ?_
        try simp only [Act.put, nA]
        refine tk (i := 24) (oi := ⟨some 47, .binOp .and 3 (.tmp 46) (.const (.int .i64 31)) 3, 3, "law.go:110", #[⟨23, .data⟩, ⟨18, .guard⟩], some (18, true)⟩) ?_
        try simp only [Act.put, nA]
        refine tk (i := 26) (oi := ⟨some 49, .move (.tmp 5), 3, "law.go:110", #[⟨18, .guard⟩], some (18, true)⟩) ?_
        try simp only [Act.put, nA]
        refine tk (i := 27) (oi := ⟨some 50, .binOp .and 3 (.tmp 49) (.const (.int .i64 7)) 3, 3, "law.go:110", #[⟨26, .data⟩, ⟨18, .guard⟩], some (18, true)⟩) ?_
        try simp only [Act.put, nA]
        refine tk (i := 28) (oi := ⟨some 51, .move (.tmp 6), 3, "law.go:110", #[⟨18, .guard⟩], some (18, true)⟩) ?_
        try simp only [Act.put, nA]
        refine tk (i := 29) (oi := ⟨some 52, .binOp .and 3 (.tmp 51) (.const (.int .i64 7)) 3, 3, "law.go:110", #[⟨28, .data⟩, ⟨18, .guard⟩], some (18, true)⟩) ?_
        try simp only [Act.put, nA]
        refine wpAnyH_ready (rs := [25]) (by kernel_rfl) (by simp) ?_
        refine AllReadyH.cons (o := ⟨some 48, .call { callee := .value (.func 9), args := #[.tmp 42, .tmp 43, .tmp 45, .tmp 47], argTypes := #[27, 3, 3, 3] }, 27, "law.go:110", #[⟨19, .data⟩, ⟨20, .data⟩, ⟨22, .data⟩, ⟨24, .data⟩, ⟨18, .chain⟩, ⟨18, .guard⟩], some (18, true)⟩) rfl (fun K9 hK => ?_) ?_
        · go_simp
          with_reducible refine (P4.out _ hL.out.t.k6').mono ?_
          rintro e y1 ⟨v2, V2, rfl, hv2, hz2, hb⟩
          replace hL := Lib.hid (hL.out.up hb)
          replace hv2 := Lib.hid hv2
          replace hz2 := Lib.hid hz2
          clear hb
          go_wp2_with fail
          refine hK.out _ _ ?_ ?_
          · (try dsimp only); exact hL.out
          clear hK K9 hHeld; intro hHeld
          try simp only [Act.put, nA]
          refine wpAnyH_ready (rs := [30]) (by kernel_rfl) (by simp) ?_
          refine AllReadyH.cons (o := ⟨some 53, .call { callee := .value (.func 8), args := #[.tmp 48, .tmp 50, .tmp 52], argTypes := #[27, 3, 3] }, 4, "law.go:110", #[⟨25, .data⟩, ⟨27, .data⟩, ⟨29, .data⟩, ⟨25, .chain⟩, ⟨18, .guard⟩], some (18, true)⟩) rfl (fun K9 hK => ?_) ?_
          · go_simp
            with_reducible refine (P7.out _ _ _ hv2.out hz2.out).mono ?_
            rintro e y1 ⟨rfl, hb⟩
            replace hL := Lib.hid (hL.out.up hb)
            clear hb
            go_wp2_with fail
            refine hK.out _ _ ?_ ?_
            · (try dsimp only); exact hL.out
            clear hK K9 hHeld; intro hHeld
            try simp only [Act.put, nA]
            refine tk (i := 31) (oi := ⟨some 54, .pick (.tmp 41) (.tmp 53) (.const (.bool false)), 4, "law.go:110", #[⟨18, .data⟩, ⟨30, .data⟩], none⟩) ?_
            try simp only [Act.put, nA]
            refine tk (i := 32) (oi := ⟨some 55, .move (.tmp 54), 4, "law.go:110", #[⟨31, .data⟩, ⟨30, .chain⟩], none⟩) ?_
            try simp only [Act.put, nA]
            refine tr (i := 33) (oi := ⟨some 56, .load 27 (.tmp 15), 27, "law.go:110", #[⟨32, .guard⟩], some (32, true)⟩) (v := (.agg #[.slice na 6 nc, .slice ka U.classes.length kc, .slice ma 9 mc, .slice oa U.objects.length oc, .int .i64 6])) (yieldsIf_load_mid (by rfl) _ _ rfl Q 0 rfl [.slice na 6 nc, .slice ka U.classes.length kc, .slice ma 9 mc, .slice oa U.objects.length oc, .int .i64 6] dU (fun w hw => hw.t.rg) hdU.out hrU.out infoU) ?_
            try simp only [Act.put, nA]
            refine tk (i := 34) (oi := ⟨some 57, .move (.tmp 1), 3, "law.go:110", #[⟨32, .guard⟩], some (32, true)⟩) ?_
            try simp only [Act.put, nA]
            refine tk (i := 35) (oi := ⟨some 58, .move (.tmp 2), 3, "law.go:110", #[⟨32, .guard⟩], some (32, true)⟩) ?_
            try simp only [Act.put, nA]
            refine tk (i := 36) (oi := ⟨some 59, .binOp .and 3 (.tmp 58) (.const (.int .i64 31)) 3, 3, "law.go:110", #[⟨35, .data⟩, ⟨32, .guard⟩], some (32, true)⟩) ?_
            try simp only [Act.put, nA]
            refine tk (i := 37) (oi := ⟨some 60, .move (.tmp 3), 3, "law.go:110", #[⟨32, .guard⟩], some (32, true)⟩) ?_
            try simp only [Act.put, nA]
            refine tk (i := 38) (oi := ⟨some 61, .binOp .and 3 (.tmp 60) (.const (.int .i64 15)) 3, 3, "law.go:110", #[⟨37, .data⟩, ⟨32, .guard⟩], some (32, true)⟩) ?_
            try simp only [Act.put, nA]
            refine tk (i := 40) (oi := ⟨some 63, .move (.tmp 3), 3, "law.go:110", #[⟨32, .guard⟩], some (32, true)⟩) ?_
            try simp only [Act.put, nA]
            refine tk (i := 41) (oi := ⟨some 64, .move (.tmp 2), 3, "law.go:110", #[⟨32, .guard⟩], some (32, true)⟩) ?_
            try simp only [Act.put, nA]
            refine tk (i := 42) (oi := ⟨some 65, .binOp .and 3 (.tmp 64) (.const (.int .i64 31)) 3, 3, "law.go:110", #[⟨41, .data⟩, ⟨32, .guard⟩], some (32, true)⟩) ?_
            try simp only [Act.put, nA]
            refine tk (i := 43) (oi := ⟨some 66, .move (.tmp 1), 3, "law.go:110", #[⟨32, .guard⟩], some (32, true)⟩) ?_
            try simp only [Act.put, nA]
            refine tk (i := 44) (oi := ⟨some 67, .binOp .and 3 (.tmp 66) (.const (.int .i64 15)) 3, 3, "law.go:110", #[⟨43, .data⟩, ⟨32, .guard⟩], some (32, true)⟩) ?_
            try simp only [Act.put, nA]
            refine wpAnyH_ready (rs := [39]) (by kernel_rfl) (by simp) ?_
            refine AllReadyH.cons (o := ⟨some 62, .call { callee := .value (.func 9), args := #[.tmp 56, .tmp 57, .tmp 59, .tmp 61], argTypes := #[27, 3, 3, 3] }, 27, "law.go:110", #[⟨33, .data⟩, ⟨34, .data⟩, ⟨36, .data⟩, ⟨38, .data⟩, ⟨32, .chain⟩, ⟨32, .guard⟩], some (32, true)⟩) rfl (fun K9 hK => ?_) ?_
            · go_simp
              with_reducible refine (P5.out _ hL.out.t.k6').mono ?_
              rintro e y1 ⟨v3, V3, rfl, hv3, hz3, hb⟩
              replace hL := Lib.hid (hL.out.up hb)
              replace hv3 := Lib.hid hv3
              replace hz3 := Lib.hid hz3
              clear hb
              go_wp2_with fail
              refine hK.out _ _ ?_ ?_
              · (try dsimp only); exact hL.out
              clear hK K9 hHeld; intro hHeld
              try simp only [Act.put, nA]
              refine wpAnyH_ready (rs := [45]) (by kernel_rfl) (by simp) ?_
              refine AllReadyH.cons (o := ⟨some 68, .call { callee := .value (.func 9), args := #[.tmp 62, .tmp 63, .tmp 65, .tmp 67], argTypes := #[27, 3, 3, 3] }, 27, "law.go:110", #[⟨39, .data⟩, ⟨40, .data⟩, ⟨42, .data⟩, ⟨44, .data⟩, ⟨39, .chain⟩, ⟨32, .guard⟩], some (32, true)⟩) rfl (fun K9 hK => ?_) ?_
              · go_simp
                with_reducible refine (P6.out _ _ _ hv3.out hz3.out).mono ?_
                rintro e y1 ⟨v4, V4, rfl, hv4, hz4, hb⟩
                replace hL := Lib.hid (hL.out.up hb)
                replace hv4 := Lib.hid hv4
                replace hz4 := Lib.hid hz4
                clear hb
                go_wp2_with fail
                refine hK.out _ _ ?_ ?_
                · (try dsimp only); exact hL.out
                clear hK K9 hHeld; intro hHeld
                try simp only [Act.put, nA]
                refine wpAnyH_ready (rs := [46]) (by kernel_rfl) (by simp) ?_
                refine AllReadyH.cons (o := ⟨some 69, .call { callee := .value (.func 8), args := #[.tmp 68, .const (.int .i64 1), .const (.int .i64 2)], argTypes := #[27, 3, 3] }, 4, "law.go:110", #[⟨45, .data⟩, ⟨45, .chain⟩, ⟨32, .guard⟩], some (32, true)⟩) rfl (fun K9 hK => ?_) ?_
                · go_simp
                  with_reducible refine (P8.out _ _ _ hv4.out hz4.out).mono ?_
                  rintro e y1 ⟨rfl, hb⟩
                  replace hL := Lib.hid (hL.out.up hb)
                  clear hb
                  go_wp2_with fail
                  refine hK.out _ _ ?_ ?_
                  · (try dsimp only); exact hL.out
                  clear hK K9 hHeld; intro hHeld
                  try simp only [Act.put, nA]
                  refine tk (i := 47) (oi := ⟨some 70, .pick (.tmp 55) (.tmp 69) (.const (.bool false)), 4, "law.go:110", #[⟨32, .data⟩, ⟨46, .data⟩], none⟩) ?_
                  try simp only [Act.put, nA]
                  refine tk (i := 48) (oi := ⟨some 71, .move (.tmp 70), 4, "law.go:110", #[⟨47, .data⟩, ⟨46, .chain⟩], none⟩) ?_
                  try simp only [Act.put, nA]
                  refine tr (i := 49) (oi := ⟨some 72, .load 27 (.tmp 16), 27, "law.go:110", #[⟨48, .guard⟩], some (48, true)⟩) (v := (.agg #[.slice xn X.names.length xnc, .slice xk X.classes.length xkc, .slice xm X.methods.length xmc, .slice xo X.objects.length xoc, .int .i64 X.main])) (yieldsIf_load_mid (by rfl) _ _ rfl Q2 0 rfl [.slice xn X.names.length xnc, .slice xk X.classes.length xkc, .slice xm X.methods.length xmc, .slice xo X.objects.length xoc, .int .i64 X.main] dU (fun w hw => hw.x.range) hdU.out hrU.out infoU) ?_
                  try simp only [Act.put, nA]
                  refine tk (i := 50) (oi := ⟨some 73, .move (.tmp 5), 3, "law.go:110", #[⟨48, .guard⟩], some (48, true)⟩) ?_
                  try simp only [Act.put, nA]
                  refine tk (i := 51) (oi := ⟨some 74, .move (.tmp 6), 3, "law.go:110", #[⟨48, .guard⟩], some (48, true)⟩) ?_
                  try simp only [Act.put, nA]
                  refine wpAnyH_ready (rs := [52]) (by kernel_rfl) (by simp) ?_
                  refine AllReadyH.cons (o := ⟨some 75, .call { callee := .value (.func 8), args := #[.tmp 72, .tmp 73, .tmp 74], argTypes := #[27, 3, 3] }, 4, "law.go:110", #[⟨49, .data⟩, ⟨50, .data⟩, ⟨51, .data⟩, ⟨48, .chain⟩, ⟨48, .guard⟩], some (48, true)⟩) rfl (fun K9 hK => ?_) ?_
                  · go_simp
                    with_reducible refine (P9.out _ hL.out.x.un).mono ?_
                    rintro e y1 ⟨rfl, hb⟩
                    replace hL := Lib.hid (hL.out.up hb)
                    clear hb
                    go_wp2_with fail
                    refine hK.out _ _ ?_ ?_
                    · (try dsimp only); exact hL.out
                    clear hK K9 hHeld; intro hHeld
                    try simp only [Act.put, nA]
                    refine tk (i := 53) (oi := ⟨some 76, .pick (.tmp 71) (.tmp 75) (.const (.bool false)), 4, "law.go:110", #[⟨48, .data⟩, ⟨52, .data⟩], none⟩) ?_
                    try simp only [Act.put, nA]
                    refine tk (i := 54) (oi := ⟨some 77, .move (.tmp 76), 4, "law.go:110", #[⟨53, .data⟩, ⟨52, .chain⟩], none⟩) ?_
                    try simp only [Act.put, nA]
                    refine tr (i := 55) (oi := ⟨some 78, .load 27 (.tmp 15), 27, "law.go:110", #[⟨54, .guard⟩], some (54, true)⟩) (v := (.agg #[.slice na 6 nc, .slice ka U.classes.length kc, .slice ma 9 mc, .slice oa U.objects.length oc, .int .i64 6])) (yieldsIf_load_mid (by rfl) _ _ rfl Q 0 rfl [.slice na 6 nc, .slice ka U.classes.length kc, .slice ma 9 mc, .slice oa U.objects.length oc, .int .i64 6] dU (fun w hw => hw.t.rg) hdU.out hrU.out infoU) ?_
                    try simp only [Act.put, nA]
                    refine tr (i := 56) (oi := ⟨some 79, .load 27 (.tmp 16), 27, "law.go:110", #[⟨54, .guard⟩], some (54, true)⟩) (v := (.agg #[.slice xn X.names.length xnc, .slice xk X.classes.length xkc, .slice xm X.methods.length xmc, .slice xo X.objects.length xoc, .int .i64 X.main])) (yieldsIf_load_mid (by rfl) _ _ rfl Q2 0 rfl [.slice xn X.names.length xnc, .slice xk X.classes.length xkc, .slice xm X.methods.length xmc, .slice xo X.objects.length xoc, .int .i64 X.main] dU (fun w hw => hw.x.range) hdU.out hrU.out infoU) ?_
                    try simp only [Act.put, nA]
                    refine tr (i := 58) (oi := ⟨some 81, .load 27 (.tmp 15), 27, "law.go:110", #[⟨54, .guard⟩], some (54, true)⟩) (v := (.agg #[.slice na 6 nc, .slice ka U.classes.length kc, .slice ma 9 mc, .slice oa U.objects.length oc, .int .i64 6])) (yieldsIf_load_mid (by rfl) _ _ rfl Q 0 rfl [.slice na 6 nc, .slice ka U.classes.length kc, .slice ma 9 mc, .slice oa U.objects.length oc, .int .i64 6] dU (fun w hw => hw.t.rg) hdU.out hrU.out infoU) ?_
                    try simp only [Act.put, nA]
                    refine tr (i := 59) (oi := ⟨some 82, .load 27 (.tmp 16), 27, "law.go:110", #[⟨54, .guard⟩], some (54, true)⟩) (v := (.agg #[.slice xn X.names.length xnc, .slice xk X.classes.length xkc, .slice xm X.methods.length xmc, .slice xo X.objects.length xoc, .int .i64 X.main])) (yieldsIf_load_mid (by rfl) _ _ rfl Q2 0 rfl [.slice xn X.names.length xnc, .slice xk X.classes.length xkc, .slice xm X.methods.length xmc, .slice xo X.objects.length xoc, .int .i64 X.main] dU (fun w hw => hw.x.range) hdU.out hrU.out infoU) ?_
                    try simp only [Act.put, nA]
                    refine wpAnyH_ready (rs := [57]) (by kernel_rfl) (by simp) ?_
                    refine AllReadyH.cons (o := ⟨some 80, .call { callee := .value (.func 12), args := #[.tmp 78, .tmp 79], argTypes := #[27, 27] }, 4, "law.go:110", #[⟨55, .data⟩, ⟨56, .data⟩, ⟨54, .chain⟩, ⟨54, .guard⟩], some (54, true)⟩) rfl (fun K9 hK => ?_) ?_
                    · go_simp
                      with_reducible refine (PS.out _ hL.out.t.k6' hL.out.x.un).mono ?_
                      rintro e y1 ⟨rfl, hb⟩
                      replace hL := Lib.hid (hL.out.up hb)
                      clear hb
                      go_wp2_with fail
                      refine hK.out _ _ ?_ ?_
                      · (try dsimp only); exact hL.out
                      clear hK K9 hHeld; intro hHeld
                      try simp only [Act.put, nA]
                      refine wpAnyH_ready (rs := [60]) (by kernel_rfl) (by simp) ?_
                      refine AllReadyH.cons (o := ⟨some 83, .call { callee := .value (.func 13), args := #[.tmp 81, .tmp 82], argTypes := #[27, 27] }, 4, "law.go:110", #[⟨58, .data⟩, ⟨59, .data⟩, ⟨57, .chain⟩, ⟨54, .guard⟩], some (54, true)⟩) rfl (fun K9 hK => ?_) ?_
                      · go_simp
                        with_reducible refine (PS2.out _ hL.out.t.k6' hL.out.x.un).mono ?_
                        rintro e y1 ⟨rfl, hb⟩
                        replace hL := Lib.hid (hL.out.up hb)
                        clear hb
                        go_wp2_with fail
                        refine hK.out _ _ ?_ ?_
                        · (try dsimp only); exact hL.out
                        clear hK K9 hHeld; intro hHeld
                        try simp only [Act.put, nA]
                        refine tk (i := 61) (oi := ⟨some 84, .binOp .eql 4 (.tmp 80) (.tmp 83) 4, 4, "law.go:110", #[⟨57, .data⟩, ⟨60, .data⟩, ⟨54, .guard⟩], some (54, true)⟩) ?_
                        try simp only [Act.put, nA]
                        refine tk (i := 62) (oi := ⟨some 85, .pick (.tmp 77) (.tmp 84) (.const (.bool false)), 4, "law.go:110", #[⟨54, .data⟩, ⟨61, .data⟩], none⟩) ?_
                        try simp only [Act.put, nA]
                        refine tk (i := 63) (oi := ⟨some 86, .move (.tmp 85), 4, "law.go:110", #[⟨62, .data⟩, ⟨60, .chain⟩], none⟩) ?_
                        try simp only [Act.put, nA]
                        refine wpAnyH_ready (rs := [64]) (by kernel_rfl) (by simp) ?_
                        refine AllReadyH.cons (o := ⟨some 87, .call { callee := .value (.func 10), args := #[], argTypes := #[] }, 4, "law.go:110", #[⟨63, .chain⟩, ⟨63, .guard⟩], some (63, true)⟩) rfl (fun K9 hK => ?_) ?_
                        · go_simp
                          with_reducible refine (PN.out _).mono ?_
                          rintro e y1 ⟨rfl, hb⟩
                          replace hL := Lib.hid (hL.out.up hb)
                          clear hb
                          go_wp2_with fail
                          refine hK.out _ _ ?_ ?_
                          · (try dsimp only); exact hL.out
                          clear hK K9 hHeld; intro hHeld
                          try simp only [Act.put, nA]
                          refine tk (i := 65) (oi := ⟨some 88, .pick (.tmp 86) (.tmp 87) (.const (.bool false)), 4, "law.go:110", #[⟨63, .data⟩, ⟨64, .data⟩], none⟩) ?_
                          try simp only [Act.put, nA]
                          refine tk (i := 66) (oi := ⟨some 14, .assign (.tmp 88), 4, "law.go:110", ([⟨65, .data⟩, ⟨64, .chain⟩, ⟨0, .phase⟩, ⟨1, .phase⟩, ⟨2, .phase⟩, ⟨3, .phase⟩, ⟨4, .phase⟩, ⟨5, .phase⟩, ⟨6, .phase⟩, ⟨7, .phase⟩, ⟨8, .phase⟩, ⟨9, .phase⟩, ⟨10, .phase⟩, ⟨11, .phase⟩, ⟨12, .phase⟩, ⟨13, .phase⟩, ⟨14, .phase⟩, ⟨15, .phase⟩, ⟨16, .phase⟩, ⟨17, .phase⟩, ⟨18, .phase⟩, ⟨19, .phase⟩, ⟨20, .phase⟩, ⟨21, .phase⟩, ⟨22, .phase⟩, ⟨23, .phase⟩, ⟨24, .phase⟩, ⟨25, .phase⟩, ⟨26, .phase⟩, ⟨27, .phase⟩, ⟨28, .phase⟩, ⟨29, .phase⟩, ⟨30, .phase⟩, ⟨31, .phase⟩].append [⟨32, .phase⟩, ⟨33, .phase⟩, ⟨34, .phase⟩, ⟨35, .phase⟩, ⟨36, .phase⟩, ⟨37, .phase⟩, ⟨38, .phase⟩, ⟨39, .phase⟩, ⟨40, .phase⟩, ⟨41, .phase⟩, ⟨42, .phase⟩, ⟨43, .phase⟩, ⟨44, .phase⟩, ⟨45, .phase⟩, ⟨46, .phase⟩, ⟨47, .phase⟩, ⟨48, .phase⟩, ⟨49, .phase⟩, ⟨50, .phase⟩, ⟨51, .phase⟩, ⟨52, .phase⟩, ⟨53, .phase⟩, ⟨54, .phase⟩, ⟨55, .phase⟩, ⟨56, .phase⟩, ⟨57, .phase⟩, ⟨58, .phase⟩, ⟨59, .phase⟩, ⟨60, .phase⟩, ⟨61, .phase⟩, ⟨62, .phase⟩, ⟨63, .phase⟩, ⟨64, .phase⟩, ⟨65, .phase⟩]).toArray, none⟩) ?_
                          try simp only [Act.put, List.setIfInBounds_toArray, List.set_cons_succ]
                          refine wpAnyH_done (by kernel_rfl) ?_ _
                          go_wp2_with fail
                          go_ret
                          exact ⟨by simp, hL.out.t.bel⟩
                        exact AllReadyH.nil
                      exact AllReadyH.nil
                    exact AllReadyH.nil
                  exact AllReadyH.nil
                exact AllReadyH.nil
              exact AllReadyH.nil
            exact AllReadyH.nil
          exact AllReadyH.nil
        exact AllReadyH.nil
      exact AllReadyH.nil
    exact AllReadyH.nil
  exact AllReadyH.nil
end Wd
end Go.Proofs.YtgfdgdbkifkehaaGreat
