/-
  WtypeBack: what was read is what was put.
-/
import Derived.Test.YtjagimlmclejeaaJ37
import Derived.Test.YtjagimlmclejeaaJ39
import Derived.Test.YtjagimlmclejeaaJ3
namespace Go.Proofs.Ytjagimlmclejeaa
open Go.RowKit Go.Proofs.Leb Go.Proofs.Own
set_option maxRecDepth 100000
set_option maxHeartbeats 8000000


/-- in a round: the box, the bytes, what was read -/
structure R17 (w : World) (x : TyM) (g6 g9 g10 g11 : Nat) (v6 : Value) (a1 a2 : Option Addr) (c1 c2 : Nat) (W : World) : Prop where
  nw : New w W
  bx : W.heap[w.heap.size]? = some (.cells (tyC x) 32)
  b6 : One1 W g6 v6
  b9 : W.heap[g9]? = some (.cells #[.slice a1 (lb x.p).length c1, .slice a2 (lb x.r).length c2] 35)
  r1 : VBytes W (.slice a1 (lb x.p).length c1) (lb x.p)
  r2 : VBytes W (.slice a2 (lb x.r).length c2) (lb x.r)
  b10 : W.heap[g10]? = some (.cells #[.int .u8 x.gt.toNat, .bool x.gm] 44)
  b11 : W.heap[g11]? = some (.cells #[.int .u8 x.e.toNat, .bool x.th, .int .u32 (x.tn : Nat), .int .u32 (x.tx : Nat)] 41)
theorem R17.new {w : World} {x : TyM} {g6 g9 g10 g11 : Nat} {v6 : Value} {a1 a2 : Option Addr} {c1 c2 : Nat} {a b : World} (h : R17 w x g6 g9 g10 g11 v6 a1 a2 c1 c2 a) (k : New a b) : R17 w x g6 g9 g10 g11 v6 a1 a2 c1 c2 b :=
  ⟨New.trans h.nw k, hp1 h.bx k, h.b6.new k, hp1 h.b9 k, h.r1.new k, h.r2.new k, hp1 h.b10 k, hp1 h.b11 k⟩
theorem R17.atx {w : World} {x : TyM} {g6 g9 g10 g11 : Nat} {v6 : Value} {a1 a2 : Option Addr} {c1 c2 : Nat} {a : World} (h : R17 w x g6 g9 g10 g11 v6 a1 a2 c1 c2 a) (i : Nat) {v : Value} (hv : (tyC x)[i]? = some v) : a.cell? ⟨w.heap.size, i, none⟩ = some v := cellAt h.bx i hv

noncomputable def wb17code : Code := (Try.f4.body.bind (findRegion 17)).getD .skip
theorem wb17_any {K : Act → World → Prop} {Q : Exit → Act → World → Prop} (w W0 : World) (x : TyM) (g6 g9 g10 g11 L cap c1 c2 : Nat) (a a1 a2 : Option Addr)
    (h0 : R17 w x g6 g9 g10 g11 (.slice a L cap) a1 a2 c1 c2 W0) (s1 : x.p.size ≤ 300) (s2 : x.r.size ≤ 300) (t0 t1 t3 t4 t5 t7 t8 t14 t15 t16 t17 t18 t19 t20 t21 t22 t23 t24 t25 t26 t27 t28 t29 t30 t31 t32 t33 t34 t35 t36 t37 t38 t39 t40 t41 t42 t43 t44 t45 t46 t47 t48 t49 t50 t51 t52 t53 t54 t55 t56 t57 t58 t59 t60 t61 t62 t63 t64 t65 t66 t67 t68 t69 t70 t71 t72 t73 t74 t75 t76 t77 t78 t79 t80 t81 t82 t83 t84 t85 t86 t87 t88 t89 t90 t91 t92 t93 t94 t95 t96 t97 t98 t99 t100 t101 t102 t103 t104 t105 t106 t107 t108 t109 t110 t111 t112 t113 t114 t115 t116 t117 t118 t119 t120 t121 t122 t123 t124 t125 t126 t127 t128 t129 t130 t131 t132 t133 t134 t135 t136 t137 t138 t139 t140 : Value)
    (hK : ∀ (v110 v111 v112 v113 v114 v115 v116 v117 v118 v119 v120 v121 v122 v123 v124 v125 v126 v127 v128 v129 v130 v131 v132 v133 v134 v135 v136 v137 : Value)  (W2 : World), R17 w x g6 g9 g10 g11 (.slice a L cap) a1 a2 c1 c2 W2 → New W0 W2 → K ⟨#[t0, t1, .pointer (some ⟨w.heap.size, 0, none⟩), t3, t4, t5, .pointer (some ⟨g6, 0, none⟩), t7, t8, .pointer (some ⟨g9, 0, none⟩), .pointer (some ⟨g10, 0, none⟩), .pointer (some ⟨g11, 0, none⟩), .int .i64 (L : Nat), .int .i64 0, t14, t15, t16, t17, t18, t19, t20, t21, t22, t23, t24, t25, t26, t27, t28, t29, t30, t31, t32, t33, t34, t35, t36, t37, t38, t39, t40, t41, t42, t43, t44, t45, t46, t47, t48, t49, t50, t51, t52, t53, t54, t55, t56, t57, t58, t59, t60, t61, t62, t63, t64, t65, t66, t67, t68, t69, t70, t71, t72, t73, t74, t75, t76, t77, t78, t79, t80, t81, t82, t83, t84, t85, t86, t87, t88, t89, t90, t91, t92, t93, t94, t95, t96, t97, t98, t99, t100, t101, t102, t103, t104, t105, t106, t107, t108, t109, v110, v111, v112, v113, v114, v115, v116, v117, v118, v119, v120, v121, v122, v123, v124, v125, v126, v127, v128, v129, v130, v131, v132, v133, v134, v135, v136, v137, .bool false, t139, t140], []⟩ W2) :
    Code.wp Try.prog wb17code (Exit.then K Q) ⟨#[t0, t1, .pointer (some ⟨w.heap.size, 0, none⟩), t3, t4, t5, .pointer (some ⟨g6, 0, none⟩), t7, t8, .pointer (some ⟨g9, 0, none⟩), .pointer (some ⟨g10, 0, none⟩), .pointer (some ⟨g11, 0, none⟩), .int .i64 (L : Nat), .int .i64 0, t14, t15, t16, t17, t18, t19, t20, t21, t22, t23, t24, t25, t26, t27, t28, t29, t30, t31, t32, t33, t34, t35, t36, t37, t38, t39, t40, t41, t42, t43, t44, t45, t46, t47, t48, t49, t50, t51, t52, t53, t54, t55, t56, t57, t58, t59, t60, t61, t62, t63, t64, t65, t66, t67, t68, t69, t70, t71, t72, t73, t74, t75, t76, t77, t78, t79, t80, t81, t82, t83, t84, t85, t86, t87, t88, t89, t90, t91, t92, t93, t94, t95, t96, t97, t98, t99, t100, t101, t102, t103, t104, t105, t106, t107, t108, t109, t110, t111, t112, t113, t114, t115, t116, t117, t118, t119, t120, t121, t122, t123, t124, t125, t126, t127, t128, t129, t130, t131, t132, t133, t134, t135, t136, t137, t138, t139, t140], []⟩ W0 := by
  have HK := hid hK
  clear hK
  have l1 := lb_len x.p
  have l2 := lb_len x.r
  have HF := hid (fun w' (h1 : Rd w' (.slice a1 (lb x.p).length c1) (lb x.p)) (h2 : Rd w' (.slice a2 (lb x.r).length c2) (lb x.r)) => backFn_any _ _ (lb x.p) (lb x.r) w' h1 h2 (by omega) (by omega))
  have HG := hid (fun w' => backGt_any x.gt.toNat x.gm w')
  have HT := hid (fun w' => backTb_any ⟨x.e.toNat, x.th, x.tn, x.tx⟩ w')
  rw [← lb_of x.p, ← lb_of x.r] at HF
  unfold OwnC0 at HF HG HT
  unfold tbC at HT
  simp only at HT
  clear l1 l2 s1 s2
  conv => arg 2; whnf
  have HS0 := hid h0
  clear h0
  have hn := HS0.out.new (Upd.refl (fun _ => False) W0).drew
  have hN := (Upd.refl (fun _ => False) W0).drew
  have hp1 : Try.prog.stoodInHeld 23 = false := by kernel_rfl
  have hg1 : Try.prog.eqGuardType Try.prog.depth 23 = false := by kernel_rfl
  have hp2 : Try.prog.stoodInHeld 30 = false := by kernel_rfl
  have hg2 : Try.prog.eqGuardType Try.prog.depth 30 = false := by kernel_rfl
  have hp3 : Try.prog.stoodInHeld 28 = false := by kernel_rfl
  have hg3 : Try.prog.eqGuardType Try.prog.depth 28 = false := by kernel_rfl
  have hp4 : Try.prog.stoodInHeld 26 = false := by kernel_rfl
  have hg4 : Try.prog.eqGuardType Try.prog.depth 26 = false := by kernel_rfl
  refine wp_region_noPanic ?_
  refine wp_region_held_drew (S := (R17 w x g6 g9 g10 g11 (.slice a L cap) a1 a2 c1 c2)) (by kernel_rfl) (by first | exact hn | exact (Upd.refl _ _).drew | exact Upd.drew (by assumption)) (fun hn => ?_)
  generalize W0.drew = wd at *
  refine wpAnyH_take (i := 0) (oi := { dst := some 110, op := Op.move (Operand.tmp 12), type := 3, pos := "outright.go:36", after := #[], guard := none }) (v := ?v1x1) rfl (by kernel_rfl) (by kernel_rfl) (by kernel_rfl) (fun _ _ _ h => h) (Or.inl ⟨by rfl, ?y1x1⟩) hn ?r1x1
  case y1x1 => (intro wS hS; (try go_simp); (try with_reducible rfl))
  try simp only [Act.put, List.setIfInBounds_toArray, List.set_cons_zero, List.set_cons_succ]
  refine wpAnyH_take (i := 1) (oi := { dst := some 111, op := Op.load 50 (Operand.tmp 6), type := 50, pos := "outright.go:36", after := #[], guard := none }) (v := ?v1x2) rfl (by kernel_rfl) (by kernel_rfl) (by kernel_rfl) (fun _ _ _ h => h) (Or.inl ⟨by rfl, ?y1x2⟩) hn ?r1x2
  case y1x2 => (intro wS hS; have c0 := hS.b6.c; (try go_simp); (try with_reducible rfl))
  try simp only [Act.put, List.setIfInBounds_toArray, List.set_cons_zero, List.set_cons_succ]
  refine wpAnyH_take (i := 2) (oi := { dst := some 112, op := Op.call { callee := Callee.builtin Builtin.len, args := #[Operand.tmp 111], argTypes := #[50] }, type := 3, pos := "outright.go:36", after := #[{ on := 1, ground := Ground.data }], guard := none }) (v := ?v1x3) rfl (by kernel_rfl) (by kernel_rfl) (by kernel_rfl) (fun _ _ _ h => h) (Or.inl ⟨by rfl, ?y1x3⟩) hn ?r1x3
  case y1x3 => (intro wS hS; (try go_simp); (try with_reducible rfl))
  try simp only [Act.put, List.setIfInBounds_toArray, List.set_cons_zero, List.set_cons_succ]
  refine wpAnyH_take (i := 3) (oi := { dst := some 113, op := Op.binOp BinOp.neq 3 (Operand.tmp 110) (Operand.tmp 112) 3, type := 4, pos := "outright.go:36", after := #[{ on := 0, ground := Ground.data }, { on := 2, ground := Ground.data }], guard := none }) (v := ?v1x4) rfl (by kernel_rfl) (by kernel_rfl) (by kernel_rfl) (fun _ _ _ h => h) (Or.inl ⟨by rfl, ?y1x4⟩) hn ?r1x4
  case y1x4 => (intro wS hS; (try go_simp); (try with_reducible rfl))
  try simp only [Act.put, List.setIfInBounds_toArray, List.set_cons_zero, List.set_cons_succ]
  refine wpAnyH_take (i := 4) (oi := { dst := some 114, op := Op.move (Operand.tmp 113), type := 4, pos := "outright.go:36", after := #[{ on := 3, ground := Ground.data }], guard := none }) (v := ?v1x5) rfl (by kernel_rfl) (by kernel_rfl) (by kernel_rfl) (fun _ _ _ h => h) (Or.inl ⟨by rfl, ?y1x5⟩) hn ?r1x5
  case y1x5 => (intro wS hS; (try go_simp); (try with_reducible rfl))
  try simp only [Act.put, List.setIfInBounds_toArray, List.set_cons_zero, List.set_cons_succ]
  refine wpAnyH_take (i := 5) (oi := { dst := some 115, op := Op.move (Operand.tmp 13), type := 59, pos := "outright.go:36", after := #[{ on := 4, ground := Ground.guard }], guard := some (4, false) }) (v := ?v1x6) rfl (by kernel_rfl) (by kernel_rfl) (by kernel_rfl) (fun _ _ _ h => h) (Or.inl ⟨by rfl, ?y1x6⟩) hn ?r1x6
  case y1x6 => (intro wS hS; (try go_simp); (try with_reducible rfl))
  try simp only [Act.put, List.setIfInBounds_toArray, List.set_cons_zero, List.set_cons_succ]
  refine wpAnyH_take (i := 6) (oi := { dst := some 116, op := Op.binOp BinOp.neq 59 (Operand.tmp 115) (Operand.const (Value.int IntKind.i64 0)) 59, type := 4, pos := "outright.go:36", after := #[{ on := 5, ground := Ground.data }, { on := 4, ground := Ground.guard }], guard := some (4, false) }) (v := ?v1x7) rfl (by kernel_rfl) (by kernel_rfl) (by kernel_rfl) (fun _ _ _ h => h) (Or.inl ⟨by rfl, ?y1x7⟩) hn ?r1x7
  case y1x7 => (intro wS hS; (try go_simp); (try with_reducible rfl))
  try simp only [Act.put, List.setIfInBounds_toArray, List.set_cons_zero, List.set_cons_succ]
  refine wpAnyH_take (i := 7) (oi := { dst := some 117, op := Op.pick (Operand.tmp 114) (Operand.const (Value.bool true)) (Operand.tmp 116), type := 4, pos := "outright.go:36", after := #[{ on := 4, ground := Ground.data }, { on := 6, ground := Ground.data }], guard := none }) (v := ?v1x8) rfl (by kernel_rfl) (by kernel_rfl) (by kernel_rfl) (fun _ _ _ h => h) (Or.inl ⟨by rfl, ?y1x8⟩) hn ?r1x8
  case y1x8 => (intro wS hS; (try go_simp); (try with_reducible rfl))
  try simp only [Act.put, List.setIfInBounds_toArray, List.set_cons_zero, List.set_cons_succ]
  refine wpAnyH_take (i := 8) (oi := { dst := some 118, op := Op.move (Operand.tmp 117), type := 4, pos := "outright.go:36", after := #[{ on := 7, ground := Ground.data }, { on := 4, ground := Ground.chain }], guard := none }) (v := ?v1x9) rfl (by kernel_rfl) (by kernel_rfl) (by kernel_rfl) (fun _ _ _ h => h) (Or.inl ⟨by rfl, ?y1x9⟩) hn ?r1x9
  case y1x9 => (intro wS hS; (try go_simp); (try with_reducible rfl))
  try simp only [Act.put, List.setIfInBounds_toArray, List.set_cons_zero, List.set_cons_succ]
  refine wpAnyH_take (i := 9) (oi := { dst := some 119, op := Op.load 35 (Operand.tmp 9), type := 35, pos := "outright.go:36", after := #[{ on := 8, ground := Ground.guard }], guard := some (8, false) }) (v := ?v1x10) rfl (by kernel_rfl) (by kernel_rfl) (by kernel_rfl) (fun _ _ _ h => h) (Or.inl ⟨by rfl, ?y1x10⟩) hn ?r1x10
  case y1x10 => (intro wS hS; have c0 : wS.cell? ⟨g9, 0, none⟩ = some (.slice a1 (lb x.p).length c1) := cellAt hS.b9 0 rfl; have c1 : wS.cell? ⟨g9, 1, none⟩ = some (.slice a2 (lb x.r).length c2) := cellAt hS.b9 1 rfl; (try go_simp); (try with_reducible rfl))
  try simp only [Act.put, List.setIfInBounds_toArray, List.set_cons_zero, List.set_cons_succ]
  refine wpAnyH_take (i := 11) (oi := { dst := some 121, op := Op.fieldAddr 32 (Operand.tmp 2) 1, type := 0, pos := "outright.go:36", after := #[{ on := 8, ground := Ground.guard }], guard := some (8, false) }) (v := ?v1x11) rfl (by kernel_rfl) (by kernel_rfl) (by kernel_rfl) (fun _ _ _ h => h) (Or.inl ⟨by rfl, ?y1x11⟩) hn ?r1x11
  case y1x11 => (intro wS hS; (try go_simp); (try with_reducible rfl))
  try simp only [Act.put, List.setIfInBounds_toArray, List.set_cons_zero, List.set_cons_succ]
  refine wpAnyH_take (i := 12) (oi := { dst := some 122, op := Op.load 23 (Operand.tmp 121), type := 23, pos := "outright.go:36", after := #[{ on := 11, ground := Ground.data }, { on := 8, ground := Ground.guard }], guard := some (8, false) }) (v := ?v1x12) rfl (by kernel_rfl) (by kernel_rfl) (by kernel_rfl) (fun _ _ _ h => h) (Or.inl ⟨by rfl, ?y1x12⟩) hn ?r1x12
  case y1x12 => (intro wS hS; have c0 : wS.cell? ⟨w.heap.size, 1, none⟩ = some (.string x.p) := hS.atx 1 rfl; have c1 : wS.cell? ⟨w.heap.size, 2, none⟩ = some (.string x.r) := hS.atx 2 rfl; (try go_simp); (try with_reducible rfl))
  try simp only [Act.put, List.setIfInBounds_toArray, List.set_cons_zero, List.set_cons_succ]
  refine wpAnyH_ready (rs := [10]) (by kernel_rfl) (by simp) ?_
  refine AllReadyH.cons (o := { dst := some 120, op := Op.call { callee := Callee.value (Operand.func 37), args := #[Operand.tmp 119], argTypes := #[35] }, type := 23, pos := "outright.go:36", after := #[{ on := 9, ground := Ground.data }, { on := 8, ground := Ground.chain }, { on := 8, ground := Ground.guard }], guard := some (8, false) }) rfl (fun K hK => ?_) AllReadyH.nil
  go_simp
  refine (HF.out _ hn.r1.rd hn.r2.rd).mono ?_
  rintro e wq ⟨rfl, hnq⟩
  go_wp2_with fail
  have hn := hn.new hnq
  have hN := New.trans hN hnq
  refine hK.out _ _ (by first | exact hn | exact Upd.alloc hn _) (fun hn => ?_)
  clear hK K
  try simp only [Act.put, List.setIfInBounds_toArray, List.set_cons_zero, List.set_cons_succ]
  refine wpAnyH_take (i := 13) (oi := { dst := some 123, op := Op.binOp BinOp.neq 23 (Operand.tmp 120) (Operand.tmp 122) 23, type := 4, pos := "outright.go:36", after := #[{ on := 10, ground := Ground.data }, { on := 12, ground := Ground.data }, { on := 8, ground := Ground.guard }], guard := some (8, false) }) (v := ?v1x13) rfl (by kernel_rfl) (by kernel_rfl) (by kernel_rfl) (fun _ _ _ h => h) (Or.inl ⟨by rfl, ?y1x13⟩) hn ?r1x13
  case y1x13 => (intro wS hS; (try go_simp); (try with_reducible rfl))
  try simp only [Act.put, List.setIfInBounds_toArray, List.set_cons_zero, List.set_cons_succ]
  refine wpAnyH_take (i := 14) (oi := { dst := some 124, op := Op.pick (Operand.tmp 118) (Operand.const (Value.bool true)) (Operand.tmp 123), type := 4, pos := "outright.go:36", after := #[{ on := 8, ground := Ground.data }, { on := 13, ground := Ground.data }], guard := none }) (v := ?v1x14) rfl (by kernel_rfl) (by kernel_rfl) (by kernel_rfl) (fun _ _ _ h => h) (Or.inl ⟨by rfl, ?y1x14⟩) hn ?r1x14
  case y1x14 => (intro wS hS; (try go_simp); (try with_reducible rfl))
  try simp only [Act.put, List.setIfInBounds_toArray, List.set_cons_zero, List.set_cons_succ]
  refine wpAnyH_take (i := 15) (oi := { dst := some 125, op := Op.move (Operand.tmp 124), type := 4, pos := "outright.go:36", after := #[{ on := 14, ground := Ground.data }, { on := 10, ground := Ground.chain }], guard := none }) (v := ?v1x15) rfl (by kernel_rfl) (by kernel_rfl) (by kernel_rfl) (fun _ _ _ h => h) (Or.inl ⟨by rfl, ?y1x15⟩) hn ?r1x15
  case y1x15 => (intro wS hS; (try go_simp); (try with_reducible rfl))
  try simp only [Act.put, List.setIfInBounds_toArray, List.set_cons_zero, List.set_cons_succ]
  refine wpAnyH_take (i := 16) (oi := { dst := some 126, op := Op.load 44 (Operand.tmp 10), type := 44, pos := "outright.go:36", after := #[{ on := 15, ground := Ground.guard }], guard := some (15, false) }) (v := ?v1x16) rfl (by kernel_rfl) (by kernel_rfl) (by kernel_rfl) (fun _ _ _ h => h) (Or.inl ⟨by rfl, ?y1x16⟩) hn ?r1x16
  case y1x16 => (intro wS hS; have c0 : wS.cell? ⟨g10, 0, none⟩ = some (.int .u8 x.gt.toNat) := cellAt hS.b10 0 rfl; have c1 : wS.cell? ⟨g10, 1, none⟩ = some (.bool x.gm) := cellAt hS.b10 1 rfl; (try go_simp); (try with_reducible rfl))
  try simp only [Act.put, List.setIfInBounds_toArray, List.set_cons_zero, List.set_cons_succ]
  refine wpAnyH_take (i := 18) (oi := { dst := some 128, op := Op.fieldAddr 32 (Operand.tmp 2) 4, type := 0, pos := "outright.go:36", after := #[{ on := 15, ground := Ground.guard }], guard := some (15, false) }) (v := ?v1x17) rfl (by kernel_rfl) (by kernel_rfl) (by kernel_rfl) (fun _ _ _ h => h) (Or.inl ⟨by rfl, ?y1x17⟩) hn ?r1x17
  case y1x17 => (intro wS hS; (try go_simp); (try with_reducible rfl))
  try simp only [Act.put, List.setIfInBounds_toArray, List.set_cons_zero, List.set_cons_succ]
  refine wpAnyH_take (i := 19) (oi := { dst := some 129, op := Op.load 30 (Operand.tmp 128), type := 30, pos := "outright.go:36", after := #[{ on := 18, ground := Ground.data }, { on := 15, ground := Ground.guard }], guard := some (15, false) }) (v := ?v1x18) rfl (by kernel_rfl) (by kernel_rfl) (by kernel_rfl) (fun _ _ _ h => h) (Or.inl ⟨by rfl, ?y1x18⟩) hn ?r1x18
  case y1x18 => (intro wS hS; have c0 : wS.cell? ⟨w.heap.size, 10, none⟩ = some (.int .u8 x.gt.toNat) := hS.atx 10 rfl; have c1 : wS.cell? ⟨w.heap.size, 11, none⟩ = some (.bool x.gm) := hS.atx 11 rfl; (try go_simp); (try with_reducible rfl))
  try simp only [Act.put, List.setIfInBounds_toArray, List.set_cons_zero, List.set_cons_succ]
  refine wpAnyH_ready (rs := [17]) (by kernel_rfl) (by simp) ?_
  refine AllReadyH.cons (o := { dst := some 127, op := Op.call { callee := Callee.value (Operand.func 38), args := #[Operand.tmp 126], argTypes := #[44] }, type := 30, pos := "outright.go:36", after := #[{ on := 16, ground := Ground.data }, { on := 15, ground := Ground.chain }, { on := 15, ground := Ground.guard }], guard := some (15, false) }) rfl (fun K hK => ?_) AllReadyH.nil
  go_simp
  refine (HG.out _).mono ?_
  rintro e wr ⟨rfl, hnq⟩
  go_wp2_with fail
  have hn := hn.new hnq
  have hN := New.trans hN hnq
  refine hK.out _ _ (by first | exact hn | exact Upd.alloc hn _) (fun hn => ?_)
  clear hK K
  try simp only [Act.put, List.setIfInBounds_toArray, List.set_cons_zero, List.set_cons_succ]
  refine wpAnyH_take (i := 20) (oi := { dst := some 130, op := Op.binOp BinOp.neq 30 (Operand.tmp 127) (Operand.tmp 129) 30, type := 4, pos := "outright.go:36", after := #[{ on := 17, ground := Ground.data }, { on := 19, ground := Ground.data }, { on := 15, ground := Ground.guard }], guard := some (15, false) }) (v := ?v1x19) rfl (by kernel_rfl) (by kernel_rfl) (by kernel_rfl) (fun _ _ _ h => h) (Or.inl ⟨by rfl, ?y1x19⟩) hn ?r1x19
  case y1x19 => (intro wS hS; (try go_simp); (try with_reducible rfl))
  try simp only [Act.put, List.setIfInBounds_toArray, List.set_cons_zero, List.set_cons_succ]
  refine wpAnyH_take (i := 21) (oi := { dst := some 131, op := Op.pick (Operand.tmp 125) (Operand.const (Value.bool true)) (Operand.tmp 130), type := 4, pos := "outright.go:36", after := #[{ on := 15, ground := Ground.data }, { on := 20, ground := Ground.data }], guard := none }) (v := ?v1x20) rfl (by kernel_rfl) (by kernel_rfl) (by kernel_rfl) (fun _ _ _ h => h) (Or.inl ⟨by rfl, ?y1x20⟩) hn ?r1x20
  case y1x20 => (intro wS hS; (try go_simp); (try with_reducible rfl))
  try simp only [Act.put, List.setIfInBounds_toArray, List.set_cons_zero, List.set_cons_succ]
  refine wpAnyH_take (i := 22) (oi := { dst := some 132, op := Op.move (Operand.tmp 131), type := 4, pos := "outright.go:36", after := #[{ on := 21, ground := Ground.data }, { on := 17, ground := Ground.chain }], guard := none }) (v := ?v1x21) rfl (by kernel_rfl) (by kernel_rfl) (by kernel_rfl) (fun _ _ _ h => h) (Or.inl ⟨by rfl, ?y1x21⟩) hn ?r1x21
  case y1x21 => (intro wS hS; (try go_simp); (try with_reducible rfl))
  try simp only [Act.put, List.setIfInBounds_toArray, List.set_cons_zero, List.set_cons_succ]
  refine wpAnyH_take (i := 23) (oi := { dst := some 133, op := Op.load 41 (Operand.tmp 11), type := 41, pos := "outright.go:36", after := #[{ on := 22, ground := Ground.guard }], guard := some (22, false) }) (v := ?v1x22) rfl (by kernel_rfl) (by kernel_rfl) (by kernel_rfl) (fun _ _ _ h => h) (Or.inl ⟨by rfl, ?y1x22⟩) hn ?r1x22
  case y1x22 => (intro wS hS; have c0 : wS.cell? ⟨g11, 0, none⟩ = some (.int .u8 x.e.toNat) := cellAt hS.b11 0 rfl; have c1 : wS.cell? ⟨g11, 1, none⟩ = some (.bool x.th) := cellAt hS.b11 1 rfl; have c2 : wS.cell? ⟨g11, 2, none⟩ = some (.int .u32 (x.tn : Nat)) := cellAt hS.b11 2 rfl; have c3 : wS.cell? ⟨g11, 3, none⟩ = some (.int .u32 (x.tx : Nat)) := cellAt hS.b11 3 rfl; (try go_simp); (try with_reducible rfl))
  try simp only [Act.put, List.setIfInBounds_toArray, List.set_cons_zero, List.set_cons_succ]
  refine wpAnyH_take (i := 25) (oi := { dst := some 135, op := Op.fieldAddr 32 (Operand.tmp 2) 3, type := 0, pos := "outright.go:36", after := #[{ on := 22, ground := Ground.guard }], guard := some (22, false) }) (v := ?v1x23) rfl (by kernel_rfl) (by kernel_rfl) (by kernel_rfl) (fun _ _ _ h => h) (Or.inl ⟨by rfl, ?y1x23⟩) hn ?r1x23
  case y1x23 => (intro wS hS; (try go_simp); (try with_reducible rfl))
  try simp only [Act.put, List.setIfInBounds_toArray, List.set_cons_zero, List.set_cons_succ]
  refine wpAnyH_take (i := 26) (oi := { dst := some 136, op := Op.load 28 (Operand.tmp 135), type := 28, pos := "outright.go:36", after := #[{ on := 25, ground := Ground.data }, { on := 22, ground := Ground.guard }], guard := some (22, false) }) (v := ?v1x24) rfl (by kernel_rfl) (by kernel_rfl) (by kernel_rfl) (fun _ _ _ h => h) (Or.inl ⟨by rfl, ?y1x24⟩) hn ?r1x24
  case y1x24 => (intro wS hS; have c0 : wS.cell? ⟨w.heap.size, 6, none⟩ = some (.int .u8 x.e.toNat) := hS.atx 6 rfl; have c1 : wS.cell? ⟨w.heap.size, 7, none⟩ = some (.bool x.th) := hS.atx 7 rfl; have c2 : wS.cell? ⟨w.heap.size, 8, none⟩ = some (.int .u32 (x.tn : Nat)) := hS.atx 8 rfl; have c3 : wS.cell? ⟨w.heap.size, 9, none⟩ = some (.int .u32 (x.tx : Nat)) := hS.atx 9 rfl; (try go_simp); (try with_reducible rfl))
  try simp only [Act.put, List.setIfInBounds_toArray, List.set_cons_zero, List.set_cons_succ]
  refine wpAnyH_ready (rs := [24]) (by kernel_rfl) (by simp) ?_
  refine AllReadyH.cons (o := { dst := some 134, op := Op.call { callee := Callee.value (Operand.func 39), args := #[Operand.tmp 133], argTypes := #[41] }, type := 28, pos := "outright.go:36", after := #[{ on := 23, ground := Ground.data }, { on := 22, ground := Ground.chain }, { on := 22, ground := Ground.guard }], guard := some (22, false) }) rfl (fun K hK => ?_) AllReadyH.nil
  go_simp
  refine (HT.out _).mono ?_
  rintro e ws ⟨rfl, hnq⟩
  go_wp2_with fail
  have hn := hn.new hnq
  have hN := New.trans hN hnq
  refine hK.out _ _ (by first | exact hn | exact Upd.alloc hn _) (fun hn => ?_)
  clear hK K
  try simp only [Act.put, List.setIfInBounds_toArray, List.set_cons_zero, List.set_cons_succ]
  refine wpAnyH_take (i := 27) (oi := { dst := some 137, op := Op.binOp BinOp.neq 28 (Operand.tmp 134) (Operand.tmp 136) 28, type := 4, pos := "outright.go:36", after := #[{ on := 24, ground := Ground.data }, { on := 26, ground := Ground.data }, { on := 22, ground := Ground.guard }], guard := some (22, false) }) (v := ?v1x25) rfl (by kernel_rfl) (by kernel_rfl) (by kernel_rfl) (fun _ _ _ h => h) (Or.inl ⟨by rfl, ?y1x25⟩) hn ?r1x25
  case y1x25 => (intro wS hS; (try go_simp); (try with_reducible rfl))
  try simp only [Act.put, List.setIfInBounds_toArray, List.set_cons_zero, List.set_cons_succ]
  refine wpAnyH_take (i := 28) (oi := { dst := some 138, op := Op.pick (Operand.tmp 132) (Operand.const (Value.bool true)) (Operand.tmp 137), type := 4, pos := "outright.go:36", after := #[{ on := 22, ground := Ground.data }, { on := 27, ground := Ground.data }], guard := none }) (v := ?v1x26) rfl (by kernel_rfl) (by kernel_rfl) (by kernel_rfl) (fun _ _ _ h => h) (Or.inl ⟨by rfl, ?y1x26⟩) hn ?r1x26
  case y1x26 => (intro wS hS; (try go_simp); (try with_reducible rfl))
  try simp only [Act.put, List.setIfInBounds_toArray, List.set_cons_zero, List.set_cons_succ]
  refine wpAnyH_done (by kernel_rfl) ?_ _
  refine NoPanic.normal ?_
  exact HK.out _ _ _ _ _ _ _ _ _ _ _ _ _ _ _ _ _ _ _ _ _ _ _ _ _ _ _ _ _ hn hN

end Go.Proofs.Ytjagimlmclejeaa
