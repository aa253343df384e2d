/-
  WtypeBack: the bytes, as the document puts them.
-/
import Derived.Test.YtjagimlmclejeaaJ37
import Derived.Test.YtjagimlmclejeaaJ41
import Derived.Test.YtjagimlmclejeaaJ3
import Derived.Test.YtjagimlmclejeaaJ42
namespace Go.Proofs.Ytjagimlmclejeaa
open Go.RowKit Go.Proofs.Leb Go.Proofs.Own
set_option maxRecDepth 100000
set_option maxHeartbeats 8000000


/-- a box of what came in, since the beginning -/
def Xb (w : World) (x : TyM) (W : World) : Prop := New w W ∧ W.heap[w.heap.size]? = some (.cells (tyC x) 32)
theorem Xb.new {w : World} {x : TyM} {a b : World} (h : Xb w x a) (k : New a b) : Xb w x b := ⟨New.trans h.1 k, hp1 h.2 k⟩
theorem Xb.atx {w : World} {x : TyM} {a : World} (h : Xb w x a) (i : Nat) {v : Value} (hv : (tyC x)[i]? = some v) : a.cell? ⟨w.heap.size, i, none⟩ = some v := cellAt h.2 i hv
theorem Xb.lt {w : World} {x : TyM} {a : World} (h : Xb w x a) : w.heap.size < a.heap.size := (Array.getElem?_eq_some_iff.1 h.2).1
theorem Xb.upd {w : World} {x : TyM} {S : Nat → Prop} {a b : World} (h : Xb w x a) (hu : Upd S a b) (hS : ∀ k, S k → w.heap.size < k) : Xb w x b :=
  ⟨Upd.trans h.1 hu (fun i hi e => by have := hS i e; omega), blk_upd h.2 hu (fun e => by have := hS _ e; omega)⟩
/-- with the bytes in a cell of their own -/
structure Yb (w : World) (x : TyM) (g6 : Nat) (v6 : Value) (bs : List UInt8) (W : World) : Prop where
  xb : Xb w x W
  b6 : One1 W g6 v6
  r6 : Rd W v6 bs
theorem Yb.new {w : World} {x : TyM} {g6 : Nat} {v6 : Value} {bs : List UInt8} {a b : World} (h : Yb w x g6 v6 bs a) (k : New a b) : Yb w x g6 v6 bs b := ⟨h.xb.new k, h.b6.new k, h.r6.new k⟩
theorem Yb.upd {w : World} {x : TyM} {g6 : Nat} {v6 : Value} {bs : List UInt8} {S : Nat → Prop} {a b : World} (h : Yb w x g6 v6 bs a) (hu : Upd S a b) (h1 : ∀ k, S k → w.heap.size < k) (h2 : ¬ S g6) (h3 : ∀ k, v6.ownBlock = some k → ¬ S k) : Yb w x g6 v6 bs b :=
  ⟨h.xb.upd hu h1, h.b6.upd hu h2, h.r6.upd hu h3⟩

noncomputable def wb6code : Code := (Try.f4.body.bind (findRegion 6)).getD .skip
theorem wb6_any {K : Act → World → Prop} {Q : Exit → Act → World → Prop} (w W0 : World) (X : TyM) (n : Nat)
    (h0 : Xb w X W0) (hok : TyOk X) (hn5 : n < 5) (t0 t1 t3 t4 t6 t7 t8 t9 t10 t11 t12 t13 t14 t15 t16 t17 t18 t19 t20 t21 t22 t23 t24 t25 t26 t27 t28 t29 t30 t31 t32 t33 t34 t35 t36 t37 t38 t39 t40 t41 t42 t43 t44 t45 t46 t47 t48 t49 t50 t51 t52 t53 t54 t55 t56 t57 t58 t59 t60 t61 t62 t63 t64 t65 t66 t67 t68 t69 t70 t71 t72 t73 t74 t75 t76 t77 t78 t79 t80 t81 t82 t83 t84 t85 t86 t87 t88 t89 t90 t91 t92 t93 t94 t95 t96 t97 t98 t99 t100 t101 t102 t103 t104 t105 t106 t107 t108 t109 t110 t111 t112 t113 t114 t115 t116 t117 t118 t119 t120 t121 t122 t123 t124 t125 t126 t127 t128 t129 t130 t131 t132 t133 t134 t135 t136 t137 t138 t139 t140 : Value)
    (hK : ∀ (v65 v66 v67 v68 v69 v70 v71 v72 v73 v74 v75 v76 v77 v78 : Value) (g6 : Nat) (a6 : Option Addr) (c6 : Nat) (W2 : World), w.heap.size < g6 → Yb w X g6 (.slice a6 (allB X n).length c6) (allB X n) W2 → K ⟨#[t0, t1, .pointer (some ⟨w.heap.size, 0, none⟩), t3, t4, .int .i64 (n : Nat), .pointer (some ⟨g6, 0, none⟩), t7, t8, t9, t10, t11, t12, t13, t14, t15, t16, t17, t18, t19, t20, t21, t22, t23, t24, t25, t26, t27, t28, t29, t30, t31, t32, t33, t34, t35, t36, t37, t38, t39, t40, t41, t42, t43, t44, t45, t46, t47, t48, t49, t50, t51, t52, t53, t54, t55, t56, t57, t58, t59, t60, t61, t62, t63, t64, v65, v66, v67, v68, v69, v70, v71, v72, v73, v74, v75, v76, v77, v78, t79, t80, t81, t82, t83, t84, t85, t86, t87, t88, t89, t90, t91, t92, t93, t94, t95, t96, t97, t98, t99, t100, t101, t102, t103, t104, t105, t106, t107, t108, t109, t110, t111, t112, t113, t114, t115, t116, t117, t118, t119, t120, t121, t122, t123, t124, t125, t126, t127, t128, t129, t130, t131, t132, t133, t134, t135, t136, t137, t138, t139, t140], []⟩ W2) :
    Code.wp Try.prog wb6code (Exit.then K Q) ⟨#[t0, t1, .pointer (some ⟨w.heap.size, 0, none⟩), t3, t4, .int .i64 (n : Nat), t6, t7, t8, t9, t10, t11, t12, t13, t14, t15, t16, t17, t18, t19, t20, t21, t22, t23, t24, t25, t26, t27, t28, t29, t30, t31, t32, t33, t34, t35, t36, t37, t38, t39, t40, t41, t42, t43, t44, t45, t46, t47, t48, t49, t50, t51, t52, t53, t54, t55, t56, t57, t58, t59, t60, t61, t62, t63, t64, t65, t66, t67, t68, t69, t70, t71, t72, t73, t74, t75, t76, t77, t78, t79, t80, t81, t82, t83, t84, t85, t86, t87, t88, t89, t90, t91, t92, t93, t94, t95, t96, t97, t98, t99, t100, t101, t102, t103, t104, t105, t106, t107, t108, t109, t110, t111, t112, t113, t114, t115, t116, t117, t118, t119, t120, t121, t122, t123, t124, t125, t126, t127, t128, t129, t130, t131, t132, t133, t134, t135, t136, t137, t138, t139, t140], []⟩ W0 := by
  have HK := hid hK
  clear hK
  obtain ⟨k0, k1, -, k3⟩ := allB_len hok n
  have HP1 := hid (fun W => fnPutR_any X.p X.r n W (Nat.le_trans hok.p (by decide)) (Nat.le_trans hok.r (by decide)) (by omega))
  have HP2 := hid (fun W => gtPutR_any X.gt X.gm W)
  have HP3 := hid (fun W => tbPutR_any X.e X.th X.tn X.tx n W hok.wf.tn hok.wf.tx (by omega))
  obtain ⟨LB, hLB⟩ : ∃ L, allB X n = L := ⟨_, rfl⟩
  obtain ⟨B1, hB1⟩ : ∃ B, fnB (lb X.p) (lb X.r) n = B := ⟨_, rfl⟩
  obtain ⟨B3, hB3⟩ : ∃ B, tbB X.e X.th X.tn X.tx n = B := ⟨_, rfl⟩
  obtain ⟨B12, hB12⟩ : ∃ B, B1 ++ [X.gt, bitB X.gm] = B := ⟨_, rfl⟩
  have HJ1 : Hid ((⟨B1.toArray⟩ : ByteArray) ++ ⟨#[X.gt, bitB X.gm]⟩ = ⟨B12.toArray⟩) := by show _ = _; rw [← hB12]; exact st_cat B1 [X.gt, bitB X.gm]
  have HJ2 : Hid ((⟨B12.toArray⟩ : ByteArray) ++ ⟨B3.toArray⟩ = ⟨LB.toArray⟩) := by show _ = _; rw [← hLB, ← hB12]; unfold allB; rw [hB1, hB3, ← List.append_assoc]; exact st_cat _ _
  rw [hB1] at HP1 k1
  rw [hB3] at HP3 k3
  rw [hLB] at k0
  have k12 : B12.length = B1.length + 2 := by rw [← hB12]; simp
  have kA : ¬ 9223372036854775807 < B1.length + 2 := by omega
  have kB : ¬ 9223372036854775807 < B12.length + B3.length := by omega
  have HLB := hid hLB
  have HK0 := hid k0
  unfold Says at HP1 HP2 HP3
  clear hLB hB1 hB3 hB12 k0 k1 k3 k12
  have HOK := hid hok
  clear hok
  conv => arg 2; whnf
  have HXB := hid h0
  clear h0
  have hn := HXB.out.new (Upd.refl _ W0).drew
  refine wp_region_noPanic ?_
  refine wp_region_held_drew (S := (Xb w X)) (by kernel_rfl) (by first | exact hn | exact (Upd.refl _ _).drew | exact Upd.drew (by assumption)) (fun hn => ?_)
  generalize W0.drew = wd at *
  refine wpAnyH_take (i := 0) (oi := { dst := some 65, op := Op.fieldAddr 32 (Operand.tmp 2) 1, type := 0, pos := "outright.go:20", after := #[], guard := none }) (v := ?v1x1) rfl (by kernel_rfl) (by kernel_rfl) (by kernel_rfl) (fun _ _ _ h => h) (Or.inl ⟨by rfl, ?y1x1⟩) hn ?r1x1
  case y1x1 => (intro wS hS; (try go_simp); (try with_reducible rfl))
  try simp only [Act.put, List.setIfInBounds_toArray, List.set_cons_zero, List.set_cons_succ]
  refine wpAnyH_take (i := 1) (oi := { dst := some 66, op := Op.load 23 (Operand.tmp 65), type := 23, pos := "outright.go:20", after := #[{ on := 0, ground := Ground.data }], guard := none }) (v := ?v1x2) rfl (by kernel_rfl) (by kernel_rfl) (by kernel_rfl) (fun _ _ _ h => h) (Or.inl ⟨by rfl, ?y1x2⟩) hn ?r1x2
  case y1x2 => (intro wS hS; have c0 : wS.cell? ⟨w.heap.size, 1, none⟩ = some (.string X.p) := hS.atx 1 rfl; have c1 : wS.cell? ⟨w.heap.size, 2, none⟩ = some (.string X.r) := hS.atx 2 rfl; (try go_simp); (try with_reducible rfl))
  try simp only [Act.put, List.setIfInBounds_toArray, List.set_cons_zero, List.set_cons_succ]
  refine wpAnyH_take (i := 2) (oi := { dst := some 67, op := Op.move (Operand.tmp 5), type := 3, pos := "outright.go:20", after := #[], guard := none }) (v := ?v1x3) rfl (by kernel_rfl) (by kernel_rfl) (by kernel_rfl) (fun _ _ _ h => h) (Or.inl ⟨by rfl, ?y1x3⟩) hn ?r1x3
  case y1x3 => (intro wS hS; (try go_simp); (try with_reducible rfl))
  try simp only [Act.put, List.setIfInBounds_toArray, List.set_cons_zero, List.set_cons_succ]
  refine wpAnyH_take (i := 4) (oi := { dst := some 69, op := Op.fieldAddr 32 (Operand.tmp 2) 4, type := 0, pos := "outright.go:20", after := #[], guard := none }) (v := ?v1x4) rfl (by kernel_rfl) (by kernel_rfl) (by kernel_rfl) (fun _ _ _ h => h) (Or.inl ⟨by rfl, ?y1x4⟩) hn ?r1x4
  case y1x4 => (intro wS hS; (try go_simp); (try with_reducible rfl))
  try simp only [Act.put, List.setIfInBounds_toArray, List.set_cons_zero, List.set_cons_succ]
  refine wpAnyH_take (i := 5) (oi := { dst := some 70, op := Op.load 30 (Operand.tmp 69), type := 30, pos := "outright.go:20", after := #[{ on := 4, ground := Ground.data }], guard := none }) (v := ?v1x5) rfl (by kernel_rfl) (by kernel_rfl) (by kernel_rfl) (fun _ _ _ h => h) (Or.inl ⟨by rfl, ?y1x5⟩) hn ?r1x5
  case y1x5 => (intro wS hS; have c0 : wS.cell? ⟨w.heap.size, 10, none⟩ = some (.int .u8 X.gt.toNat) := hS.atx 10 rfl; have c1 : wS.cell? ⟨w.heap.size, 11, none⟩ = some (.bool X.gm) := hS.atx 11 rfl; (try go_simp); (try with_reducible rfl))
  try simp only [Act.put, List.setIfInBounds_toArray, List.set_cons_zero, List.set_cons_succ]
  refine wpAnyH_take (i := 8) (oi := { dst := some 73, op := Op.fieldAddr 32 (Operand.tmp 2) 3, type := 0, pos := "outright.go:20", after := #[], guard := none }) (v := ?v1x6) rfl (by kernel_rfl) (by kernel_rfl) (by kernel_rfl) (fun _ _ _ h => h) (Or.inl ⟨by rfl, ?y1x6⟩) hn ?r1x6
  case y1x6 => (intro wS hS; (try go_simp); (try with_reducible rfl))
  try simp only [Act.put, List.setIfInBounds_toArray, List.set_cons_zero, List.set_cons_succ]
  refine wpAnyH_take (i := 9) (oi := { dst := some 74, op := Op.load 28 (Operand.tmp 73), type := 28, pos := "outright.go:20", after := #[{ on := 8, ground := Ground.data }], guard := none }) (v := ?v1x7) rfl (by kernel_rfl) (by kernel_rfl) (by kernel_rfl) (fun _ _ _ h => h) (Or.inl ⟨by rfl, ?y1x7⟩) hn ?r1x7
  case y1x7 => (intro wS hS; have c0 : wS.cell? ⟨w.heap.size, 6, none⟩ = some (.int .u8 X.e.toNat) := hS.atx 6 rfl; have c1 : wS.cell? ⟨w.heap.size, 7, none⟩ = some (.bool X.th) := hS.atx 7 rfl; have c2 : wS.cell? ⟨w.heap.size, 8, none⟩ = some (.int .u32 (X.tn : Nat)) := hS.atx 8 rfl; have c3 : wS.cell? ⟨w.heap.size, 9, none⟩ = some (.int .u32 (X.tx : Nat)) := hS.atx 9 rfl; (try go_simp); (try with_reducible rfl))
  try simp only [Act.put, List.setIfInBounds_toArray, List.set_cons_zero, List.set_cons_succ]
  refine wpAnyH_take (i := 10) (oi := { dst := some 75, op := Op.move (Operand.tmp 5), type := 3, pos := "outright.go:20", after := #[], guard := none }) (v := ?v1x8) rfl (by kernel_rfl) (by kernel_rfl) (by kernel_rfl) (fun _ _ _ h => h) (Or.inl ⟨by rfl, ?y1x8⟩) hn ?r1x8
  case y1x8 => (intro wS hS; (try go_simp); (try with_reducible rfl))
  try simp only [Act.put, List.setIfInBounds_toArray, List.set_cons_zero, List.set_cons_succ]
  refine wpAnyH_ready (rs := [3, 14]) (by kernel_rfl) (by simp) ?_
  refine AllReadyH.cons (o := { dst := some 68, op := Op.call { callee := Callee.value (Operand.func 20), args := #[Operand.tmp 66, Operand.tmp 67], argTypes := #[23, 3] }, type := 9, pos := "outright.go:20", after := #[{ on := 1, ground := Ground.data }, { on := 2, ground := Ground.data }], guard := none }) rfl (fun K hK => ?_) ?_
  · skip
    go_simp
    refine (HP1.out _).mono ?_
    rintro e wq ⟨rfl, hnq⟩
    go_wp2_with fail
    have hn := hn.new hnq
    (try have hz6 := hz6.new hnq)
    refine hK.out _ _ (by first | exact hn | exact Upd.alloc hn _) (fun hn => ?_)
    clear hK K
    try simp only [Act.put, List.setIfInBounds_toArray, List.set_cons_zero, List.set_cons_succ]
    refine wpAnyH_ready (rs := [6, 14]) (by kernel_rfl) (by simp) ?_
    refine AllReadyH.cons (o := { dst := some 71, op := Op.call { callee := Callee.value (Operand.func 28), args := #[Operand.tmp 70], argTypes := #[30] }, type := 9, pos := "outright.go:20", after := #[{ on := 5, ground := Ground.data }, { on := 3, ground := Ground.chain }], guard := none }) rfl (fun K hK => ?_) ?_
    · skip
      go_simp
      refine (HP2.out _).mono ?_
      rintro e wr ⟨rfl, hnq⟩
      go_wp2_with fail
      have hn := hn.new hnq
      (try have hz6 := hz6.new hnq)
      refine hK.out _ _ (by first | exact hn | exact Upd.alloc hn _) (fun hn => ?_)
      clear hK K
      try simp only [Act.put, List.setIfInBounds_toArray, List.set_cons_zero, List.set_cons_succ]
      refine wpAnyH_take (i := 7) (oi := { dst := some 72, op := Op.binOp BinOp.add 9 (Operand.tmp 68) (Operand.tmp 71) 9, type := 9, pos := "outright.go:20", after := #[{ on := 3, ground := Ground.data }, { on := 6, ground := Ground.data }], guard := none }) (v := ?v1x9) rfl (by kernel_rfl) (by kernel_rfl) (by kernel_rfl) (fun _ _ _ h => h) (Or.inl ⟨by rfl, ?y1x9⟩) hn ?r1x9
      case y1x9 => (intro wS hS; go_simp; rw [HJ1.out]; (try go_simp); (try with_reducible rfl))
      try simp only [Act.put, List.setIfInBounds_toArray, List.set_cons_zero, List.set_cons_succ]
      refine wpAnyH_ready (rs := [11, 14]) (by kernel_rfl) (by simp) ?_
      refine AllReadyH.cons (o := { dst := some 76, op := Op.call { callee := Callee.value (Operand.func 26), args := #[Operand.tmp 74, Operand.tmp 75], argTypes := #[28, 3] }, type := 9, pos := "outright.go:20", after := #[{ on := 9, ground := Ground.data }, { on := 10, ground := Ground.data }, { on := 6, ground := Ground.chain }], guard := none }) rfl (fun K hK => ?_) ?_
      · skip
        go_simp
        refine (HP3.out _).mono ?_
        rintro e ws ⟨rfl, hnq⟩
        go_wp2_with fail
        have hn := hn.new hnq
        (try have hz6 := hz6.new hnq)
        refine hK.out _ _ (by first | exact hn | exact Upd.alloc hn _) (fun hn => ?_)
        clear hK K
        try simp only [Act.put, List.setIfInBounds_toArray, List.set_cons_zero, List.set_cons_succ]
        refine wpAnyH_take (i := 12) (oi := { dst := some 77, op := Op.binOp BinOp.add 9 (Operand.tmp 72) (Operand.tmp 76) 9, type := 9, pos := "outright.go:20", after := #[{ on := 7, ground := Ground.data }, { on := 11, ground := Ground.data }], guard := none }) (v := ?v1x10) rfl (by kernel_rfl) (by kernel_rfl) (by kernel_rfl) (fun _ _ _ h => h) (Or.inl ⟨by rfl, ?y1x10⟩) hn ?r1x10
        case y1x10 => (intro wS hS; go_simp; rw [HJ2.out]; (try go_simp); (try with_reducible rfl))
        try simp only [Act.put, List.setIfInBounds_toArray, List.set_cons_zero, List.set_cons_succ]
        refine wpAnyH_ready (rs := [13, 14]) (by kernel_rfl) (by simp) ?_
        refine AllReadyH.cons (o := { dst := some 78, op := Op.convert 9 50 (Operand.tmp 77), type := 50, pos := "outright.go:20", after := #[{ on := 12, ground := Ground.data }], guard := none }) rfl (fun K hK => ?_) ?_
        · skip
          go_simp
          refine upon_str ?_
          intro vb wb hrb hnb hfb
          rw [show lb (⟨LB.toArray⟩ : ByteArray) = LB from rfl] at hrb
          obtain ⟨a6, c6, rfl⟩ := hrb.shape
          have hn := hn.new hnb
          have hlt6 := hrb.there (fun e => by have := congrArg List.length e; have h9 := HLB.out; rw [← h9] at this; unfold allB fnB at this; simp at this)
          clear hfb
          refine hK.out _ _ (by first | exact hn | exact Upd.alloc hn _) (fun hn => ?_)
          clear hK K
          try simp only [Act.put, List.setIfInBounds_toArray, List.set_cons_zero, List.set_cons_succ]
          refine wpAnyH_ready (rs := [14]) (by kernel_rfl) (by simp) ?_
          refine AllReadyH.cons (o := { dst := some 6, op := Op.alloc 50, type := 0, pos := "outright.go:20", after := #[], guard := none }) rfl (fun K hK => ?_) AllReadyH.nil
          go_simp
          refine absN hn.1 ?_ hn.1.size
          intro g6 hg6 hf6
          have hl6 := hn.lt
          rw [hg6] at hl6 ⊢
          refine boxStep ?_
          intro W2 hu hz
          rw [hg6] at hz
          have hn := hn.new hu
          have hz6 : One1 W2 g6 (.slice none 0 0) := ⟨_, hz⟩
          have hne6 : (Value.slice a6 LB.length c6).ownBlock ≠ some g6 := (fun e => by have := hlt6 _ e; omega)
          have hrb := hrb.new hu
          clear hz
          refine hK.out _ _ (by first | exact hn | exact Upd.alloc hn _) (fun hn => ?_)
          clear hK K
          try simp only [Act.put, List.setIfInBounds_toArray, List.set_cons_zero, List.set_cons_succ]
          refine wpAnyH_ready (rs := [15]) (by kernel_rfl) (by simp) ?_
          refine AllReadyH.cons (o := { dst := none, op := Op.store 50 (Operand.tmp 6) (Operand.tmp 78), type := 0, pos := "outright.go:20", after := #[{ on := 14, ground := Ground.data }, { on := 13, ground := Ground.data }, { on := 11, ground := Ground.chain }, { on := 0, ground := Ground.phase }, { on := 1, ground := Ground.phase }, { on := 2, ground := Ground.phase }, { on := 3, ground := Ground.phase }, { on := 4, ground := Ground.phase }, { on := 5, ground := Ground.phase }, { on := 6, ground := Ground.phase }, { on := 7, ground := Ground.phase }, { on := 8, ground := Ground.phase }, { on := 9, ground := Ground.phase }, { on := 10, ground := Ground.phase }, { on := 11, ground := Ground.phase }, { on := 12, ground := Ground.phase }, { on := 13, ground := Ground.phase }, { on := 14, ground := Ground.phase }], guard := none }) rfl (fun K hK => ?_) AllReadyH.nil
          have z := hz6.c
          have f := hz6.f
          go_simp
          refine put1Step hz6 ?_
          intro W9 hus hz9
          clear z f
          have hrb := hrb.upd hus (fun k hk e => hne6 (by rw [hk, e]))
          have hn := hn.upd hus (fun k hk => by omega)
          refine hK.out _ _ (by first | exact hn | exact Upd.alloc hn _) (fun hn => ?_)
          clear hK K
          try simp only [Act.put, List.setIfInBounds_toArray, List.set_cons_zero, List.set_cons_succ]
          refine wpAnyH_done (by kernel_rfl) ?_ _
          refine NoPanic.normal ?_
          have e9 := HLB.out
          exact HK.out _ _ _ _ _ _ _ _ _ _ _ _ _ _ g6 a6 c6 W9 hl6 ⟨hn, by rw [e9]; exact hz9, by rw [e9]; exact hrb⟩
        refine AllReadyH.cons (o := { dst := some 6, op := Op.alloc 50, type := 0, pos := "outright.go:20", after := #[], guard := none }) rfl (fun K hK => ?_) AllReadyH.nil
        go_simp
        refine absN hn.1 ?_ hn.1.size
        intro g6 hg6 hf6
        have hl6 := hn.lt
        rw [hg6] at hl6 ⊢
        refine boxStep ?_
        intro W2 hu hz
        rw [hg6] at hz
        have hn := hn.new hu
        have hz6 : One1 W2 g6 (.slice none 0 0) := ⟨_, hz⟩
        clear hz hg6
        refine hK.out _ _ (by first | exact hn | exact Upd.alloc hn _) (fun hn => ?_)
        clear hK K
        try simp only [Act.put, List.setIfInBounds_toArray, List.set_cons_zero, List.set_cons_succ]
        refine wpAnyH_ready (rs := [13]) (by kernel_rfl) (by simp) ?_
        refine AllReadyH.cons (o := { dst := some 78, op := Op.convert 9 50 (Operand.tmp 77), type := 50, pos := "outright.go:20", after := #[{ on := 12, ground := Ground.data }], guard := none }) rfl (fun K hK => ?_) AllReadyH.nil
        go_simp
        refine upon_str ?_
        intro vb wb hrb hnb hfb
        rw [show lb (⟨LB.toArray⟩ : ByteArray) = LB from rfl] at hrb
        obtain ⟨a6, c6, rfl⟩ := hrb.shape
        have hne6 : (Value.slice a6 LB.length c6).ownBlock ≠ some g6 := (fun e => by have h1 := hfb _ e; have h2 := hz6.lt; omega)
        have hn := hn.new hnb
        have hz6 := hz6.new hnb
        clear hfb
        refine hK.out _ _ (by first | exact hn | exact Upd.alloc hn _) (fun hn => ?_)
        clear hK K
        try simp only [Act.put, List.setIfInBounds_toArray, List.set_cons_zero, List.set_cons_succ]
        refine wpAnyH_ready (rs := [15]) (by kernel_rfl) (by simp) ?_
        refine AllReadyH.cons (o := { dst := none, op := Op.store 50 (Operand.tmp 6) (Operand.tmp 78), type := 0, pos := "outright.go:20", after := #[{ on := 14, ground := Ground.data }, { on := 13, ground := Ground.data }, { on := 11, ground := Ground.chain }, { on := 0, ground := Ground.phase }, { on := 1, ground := Ground.phase }, { on := 2, ground := Ground.phase }, { on := 3, ground := Ground.phase }, { on := 4, ground := Ground.phase }, { on := 5, ground := Ground.phase }, { on := 6, ground := Ground.phase }, { on := 7, ground := Ground.phase }, { on := 8, ground := Ground.phase }, { on := 9, ground := Ground.phase }, { on := 10, ground := Ground.phase }, { on := 11, ground := Ground.phase }, { on := 12, ground := Ground.phase }, { on := 13, ground := Ground.phase }, { on := 14, ground := Ground.phase }], guard := none }) rfl (fun K hK => ?_) AllReadyH.nil
        have z := hz6.c
        have f := hz6.f
        go_simp
        refine put1Step hz6 ?_
        intro W9 hus hz9
        clear z f
        have hrb := hrb.upd hus (fun k hk e => hne6 (by rw [hk, e]))
        have hn := hn.upd hus (fun k hk => by omega)
        refine hK.out _ _ (by first | exact hn | exact Upd.alloc hn _) (fun hn => ?_)
        clear hK K
        try simp only [Act.put, List.setIfInBounds_toArray, List.set_cons_zero, List.set_cons_succ]
        refine wpAnyH_done (by kernel_rfl) ?_ _
        refine NoPanic.normal ?_
        have e9 := HLB.out
        exact HK.out _ _ _ _ _ _ _ _ _ _ _ _ _ _ g6 a6 c6 W9 hl6 ⟨hn, by rw [e9]; exact hz9, by rw [e9]; exact hrb⟩
      refine AllReadyH.cons (o := { dst := some 6, op := Op.alloc 50, type := 0, pos := "outright.go:20", after := #[], guard := none }) rfl (fun K hK => ?_) AllReadyH.nil
      go_simp
      refine absN hn.1 ?_ hn.1.size
      intro g6 hg6 hf6
      have hl6 := hn.lt
      rw [hg6] at hl6 ⊢
      refine boxStep ?_
      intro W2 hu hz
      rw [hg6] at hz
      have hn := hn.new hu
      have hz6 : One1 W2 g6 (.slice none 0 0) := ⟨_, hz⟩
      clear hz hg6
      refine hK.out _ _ (by first | exact hn | exact Upd.alloc hn _) (fun hn => ?_)
      clear hK K
      try simp only [Act.put, List.setIfInBounds_toArray, List.set_cons_zero, List.set_cons_succ]
      refine wpAnyH_ready (rs := [11]) (by kernel_rfl) (by simp) ?_
      refine AllReadyH.cons (o := { dst := some 76, op := Op.call { callee := Callee.value (Operand.func 26), args := #[Operand.tmp 74, Operand.tmp 75], argTypes := #[28, 3] }, type := 9, pos := "outright.go:20", after := #[{ on := 9, ground := Ground.data }, { on := 10, ground := Ground.data }, { on := 6, ground := Ground.chain }], guard := none }) rfl (fun K hK => ?_) AllReadyH.nil
      go_simp
      refine (HP3.out _).mono ?_
      rintro e ws ⟨rfl, hnq⟩
      go_wp2_with fail
      have hn := hn.new hnq
      (try have hz6 := hz6.new hnq)
      refine hK.out _ _ (by first | exact hn | exact Upd.alloc hn _) (fun hn => ?_)
      clear hK K
      try simp only [Act.put, List.setIfInBounds_toArray, List.set_cons_zero, List.set_cons_succ]
      refine wpAnyH_take (i := 12) (oi := { dst := some 77, op := Op.binOp BinOp.add 9 (Operand.tmp 72) (Operand.tmp 76) 9, type := 9, pos := "outright.go:20", after := #[{ on := 7, ground := Ground.data }, { on := 11, ground := Ground.data }], guard := none }) (v := ?v1x11) rfl (by kernel_rfl) (by kernel_rfl) (by kernel_rfl) (fun _ _ _ h => h) (Or.inl ⟨by rfl, ?y1x11⟩) hn ?r1x11
      case y1x11 => (intro wS hS; go_simp; rw [HJ2.out]; (try go_simp); (try with_reducible rfl))
      try simp only [Act.put, List.setIfInBounds_toArray, List.set_cons_zero, List.set_cons_succ]
      refine wpAnyH_ready (rs := [13]) (by kernel_rfl) (by simp) ?_
      refine AllReadyH.cons (o := { dst := some 78, op := Op.convert 9 50 (Operand.tmp 77), type := 50, pos := "outright.go:20", after := #[{ on := 12, ground := Ground.data }], guard := none }) rfl (fun K hK => ?_) AllReadyH.nil
      go_simp
      refine upon_str ?_
      intro vb wb hrb hnb hfb
      rw [show lb (⟨LB.toArray⟩ : ByteArray) = LB from rfl] at hrb
      obtain ⟨a6, c6, rfl⟩ := hrb.shape
      have hne6 : (Value.slice a6 LB.length c6).ownBlock ≠ some g6 := (fun e => by have h1 := hfb _ e; have h2 := hz6.lt; omega)
      have hn := hn.new hnb
      have hz6 := hz6.new hnb
      clear hfb
      refine hK.out _ _ (by first | exact hn | exact Upd.alloc hn _) (fun hn => ?_)
      clear hK K
      try simp only [Act.put, List.setIfInBounds_toArray, List.set_cons_zero, List.set_cons_succ]
      refine wpAnyH_ready (rs := [15]) (by kernel_rfl) (by simp) ?_
      refine AllReadyH.cons (o := { dst := none, op := Op.store 50 (Operand.tmp 6) (Operand.tmp 78), type := 0, pos := "outright.go:20", after := #[{ on := 14, ground := Ground.data }, { on := 13, ground := Ground.data }, { on := 11, ground := Ground.chain }, { on := 0, ground := Ground.phase }, { on := 1, ground := Ground.phase }, { on := 2, ground := Ground.phase }, { on := 3, ground := Ground.phase }, { on := 4, ground := Ground.phase }, { on := 5, ground := Ground.phase }, { on := 6, ground := Ground.phase }, { on := 7, ground := Ground.phase }, { on := 8, ground := Ground.phase }, { on := 9, ground := Ground.phase }, { on := 10, ground := Ground.phase }, { on := 11, ground := Ground.phase }, { on := 12, ground := Ground.phase }, { on := 13, ground := Ground.phase }, { on := 14, ground := Ground.phase }], guard := none }) rfl (fun K hK => ?_) AllReadyH.nil
      have z := hz6.c
      have f := hz6.f
      go_simp
      refine put1Step hz6 ?_
      intro W9 hus hz9
      clear z f
      have hrb := hrb.upd hus (fun k hk e => hne6 (by rw [hk, e]))
      have hn := hn.upd hus (fun k hk => by omega)
      refine hK.out _ _ (by first | exact hn | exact Upd.alloc hn _) (fun hn => ?_)
      clear hK K
      try simp only [Act.put, List.setIfInBounds_toArray, List.set_cons_zero, List.set_cons_succ]
      refine wpAnyH_done (by kernel_rfl) ?_ _
      refine NoPanic.normal ?_
      have e9 := HLB.out
      exact HK.out _ _ _ _ _ _ _ _ _ _ _ _ _ _ g6 a6 c6 W9 hl6 ⟨hn, by rw [e9]; exact hz9, by rw [e9]; exact hrb⟩
    refine AllReadyH.cons (o := { dst := some 6, op := Op.alloc 50, type := 0, pos := "outright.go:20", after := #[], guard := none }) rfl (fun K hK => ?_) AllReadyH.nil
    go_simp
    refine absN hn.1 ?_ hn.1.size
    intro g6 hg6 hf6
    have hl6 := hn.lt
    rw [hg6] at hl6 ⊢
    refine boxStep ?_
    intro W2 hu hz
    rw [hg6] at hz
    have hn := hn.new hu
    have hz6 : One1 W2 g6 (.slice none 0 0) := ⟨_, hz⟩
    clear hz hg6
    refine hK.out _ _ (by first | exact hn | exact Upd.alloc hn _) (fun hn => ?_)
    clear hK K
    try simp only [Act.put, List.setIfInBounds_toArray, List.set_cons_zero, List.set_cons_succ]
    refine wpAnyH_ready (rs := [6]) (by kernel_rfl) (by simp) ?_
    refine AllReadyH.cons (o := { dst := some 71, op := Op.call { callee := Callee.value (Operand.func 28), args := #[Operand.tmp 70], argTypes := #[30] }, type := 9, pos := "outright.go:20", after := #[{ on := 5, ground := Ground.data }, { on := 3, ground := Ground.chain }], guard := none }) rfl (fun K hK => ?_) AllReadyH.nil
    go_simp
    refine (HP2.out _).mono ?_
    rintro e wr ⟨rfl, hnq⟩
    go_wp2_with fail
    have hn := hn.new hnq
    (try have hz6 := hz6.new hnq)
    refine hK.out _ _ (by first | exact hn | exact Upd.alloc hn _) (fun hn => ?_)
    clear hK K
    try simp only [Act.put, List.setIfInBounds_toArray, List.set_cons_zero, List.set_cons_succ]
    refine wpAnyH_take (i := 7) (oi := { dst := some 72, op := Op.binOp BinOp.add 9 (Operand.tmp 68) (Operand.tmp 71) 9, type := 9, pos := "outright.go:20", after := #[{ on := 3, ground := Ground.data }, { on := 6, ground := Ground.data }], guard := none }) (v := ?v1x12) rfl (by kernel_rfl) (by kernel_rfl) (by kernel_rfl) (fun _ _ _ h => h) (Or.inl ⟨by rfl, ?y1x12⟩) hn ?r1x12
    case y1x12 => (intro wS hS; go_simp; rw [HJ1.out]; (try go_simp); (try with_reducible rfl))
    try simp only [Act.put, List.setIfInBounds_toArray, List.set_cons_zero, List.set_cons_succ]
    refine wpAnyH_ready (rs := [11]) (by kernel_rfl) (by simp) ?_
    refine AllReadyH.cons (o := { dst := some 76, op := Op.call { callee := Callee.value (Operand.func 26), args := #[Operand.tmp 74, Operand.tmp 75], argTypes := #[28, 3] }, type := 9, pos := "outright.go:20", after := #[{ on := 9, ground := Ground.data }, { on := 10, ground := Ground.data }, { on := 6, ground := Ground.chain }], guard := none }) rfl (fun K hK => ?_) AllReadyH.nil
    go_simp
    refine (HP3.out _).mono ?_
    rintro e ws ⟨rfl, hnq⟩
    go_wp2_with fail
    have hn := hn.new hnq
    (try have hz6 := hz6.new hnq)
    refine hK.out _ _ (by first | exact hn | exact Upd.alloc hn _) (fun hn => ?_)
    clear hK K
    try simp only [Act.put, List.setIfInBounds_toArray, List.set_cons_zero, List.set_cons_succ]
    refine wpAnyH_take (i := 12) (oi := { dst := some 77, op := Op.binOp BinOp.add 9 (Operand.tmp 72) (Operand.tmp 76) 9, type := 9, pos := "outright.go:20", after := #[{ on := 7, ground := Ground.data }, { on := 11, ground := Ground.data }], guard := none }) (v := ?v1x13) rfl (by kernel_rfl) (by kernel_rfl) (by kernel_rfl) (fun _ _ _ h => h) (Or.inl ⟨by rfl, ?y1x13⟩) hn ?r1x13
    case y1x13 => (intro wS hS; go_simp; rw [HJ2.out]; (try go_simp); (try with_reducible rfl))
    try simp only [Act.put, List.setIfInBounds_toArray, List.set_cons_zero, List.set_cons_succ]
    refine wpAnyH_ready (rs := [13]) (by kernel_rfl) (by simp) ?_
    refine AllReadyH.cons (o := { dst := some 78, op := Op.convert 9 50 (Operand.tmp 77), type := 50, pos := "outright.go:20", after := #[{ on := 12, ground := Ground.data }], guard := none }) rfl (fun K hK => ?_) AllReadyH.nil
    go_simp
    refine upon_str ?_
    intro vb wb hrb hnb hfb
    rw [show lb (⟨LB.toArray⟩ : ByteArray) = LB from rfl] at hrb
    obtain ⟨a6, c6, rfl⟩ := hrb.shape
    have hne6 : (Value.slice a6 LB.length c6).ownBlock ≠ some g6 := (fun e => by have h1 := hfb _ e; have h2 := hz6.lt; omega)
    have hn := hn.new hnb
    have hz6 := hz6.new hnb
    clear hfb
    refine hK.out _ _ (by first | exact hn | exact Upd.alloc hn _) (fun hn => ?_)
    clear hK K
    try simp only [Act.put, List.setIfInBounds_toArray, List.set_cons_zero, List.set_cons_succ]
    refine wpAnyH_ready (rs := [15]) (by kernel_rfl) (by simp) ?_
    refine AllReadyH.cons (o := { dst := none, op := Op.store 50 (Operand.tmp 6) (Operand.tmp 78), type := 0, pos := "outright.go:20", after := #[{ on := 14, ground := Ground.data }, { on := 13, ground := Ground.data }, { on := 11, ground := Ground.chain }, { on := 0, ground := Ground.phase }, { on := 1, ground := Ground.phase }, { on := 2, ground := Ground.phase }, { on := 3, ground := Ground.phase }, { on := 4, ground := Ground.phase }, { on := 5, ground := Ground.phase }, { on := 6, ground := Ground.phase }, { on := 7, ground := Ground.phase }, { on := 8, ground := Ground.phase }, { on := 9, ground := Ground.phase }, { on := 10, ground := Ground.phase }, { on := 11, ground := Ground.phase }, { on := 12, ground := Ground.phase }, { on := 13, ground := Ground.phase }, { on := 14, ground := Ground.phase }], guard := none }) rfl (fun K hK => ?_) AllReadyH.nil
    have z := hz6.c
    have f := hz6.f
    go_simp
    refine put1Step hz6 ?_
    intro W9 hus hz9
    clear z f
    have hrb := hrb.upd hus (fun k hk e => hne6 (by rw [hk, e]))
    have hn := hn.upd hus (fun k hk => by omega)
    refine hK.out _ _ (by first | exact hn | exact Upd.alloc hn _) (fun hn => ?_)
    clear hK K
    try simp only [Act.put, List.setIfInBounds_toArray, List.set_cons_zero, List.set_cons_succ]
    refine wpAnyH_done (by kernel_rfl) ?_ _
    refine NoPanic.normal ?_
    have e9 := HLB.out
    exact HK.out _ _ _ _ _ _ _ _ _ _ _ _ _ _ g6 a6 c6 W9 hl6 ⟨hn, by rw [e9]; exact hz9, by rw [e9]; exact hrb⟩
  refine AllReadyH.cons (o := { dst := some 6, op := Op.alloc 50, type := 0, pos := "outright.go:20", after := #[], guard := none }) rfl (fun K hK => ?_) AllReadyH.nil
  go_simp
  refine absN hn.1 ?_ hn.1.size
  intro g6 hg6 hf6
  have hl6 := hn.lt
  rw [hg6] at hl6 ⊢
  refine boxStep ?_
  intro W2 hu hz
  rw [hg6] at hz
  have hn := hn.new hu
  have hz6 : One1 W2 g6 (.slice none 0 0) := ⟨_, hz⟩
  clear hz hg6
  refine hK.out _ _ (by first | exact hn | exact Upd.alloc hn _) (fun hn => ?_)
  clear hK K
  try simp only [Act.put, List.setIfInBounds_toArray, List.set_cons_zero, List.set_cons_succ]
  refine wpAnyH_ready (rs := [3]) (by kernel_rfl) (by simp) ?_
  refine AllReadyH.cons (o := { dst := some 68, op := Op.call { callee := Callee.value (Operand.func 20), args := #[Operand.tmp 66, Operand.tmp 67], argTypes := #[23, 3] }, type := 9, pos := "outright.go:20", after := #[{ on := 1, ground := Ground.data }, { on := 2, ground := Ground.data }], guard := none }) rfl (fun K hK => ?_) AllReadyH.nil
  go_simp
  refine (HP1.out _).mono ?_
  rintro e wq ⟨rfl, hnq⟩
  go_wp2_with fail
  have hn := hn.new hnq
  (try have hz6 := hz6.new hnq)
  refine hK.out _ _ (by first | exact hn | exact Upd.alloc hn _) (fun hn => ?_)
  clear hK K
  try simp only [Act.put, List.setIfInBounds_toArray, List.set_cons_zero, List.set_cons_succ]
  refine wpAnyH_ready (rs := [6]) (by kernel_rfl) (by simp) ?_
  refine AllReadyH.cons (o := { dst := some 71, op := Op.call { callee := Callee.value (Operand.func 28), args := #[Operand.tmp 70], argTypes := #[30] }, type := 9, pos := "outright.go:20", after := #[{ on := 5, ground := Ground.data }, { on := 3, ground := Ground.chain }], guard := none }) rfl (fun K hK => ?_) AllReadyH.nil
  go_simp
  refine (HP2.out _).mono ?_
  rintro e wr ⟨rfl, hnq⟩
  go_wp2_with fail
  have hn := hn.new hnq
  (try have hz6 := hz6.new hnq)
  refine hK.out _ _ (by first | exact hn | exact Upd.alloc hn _) (fun hn => ?_)
  clear hK K
  try simp only [Act.put, List.setIfInBounds_toArray, List.set_cons_zero, List.set_cons_succ]
  refine wpAnyH_take (i := 7) (oi := { dst := some 72, op := Op.binOp BinOp.add 9 (Operand.tmp 68) (Operand.tmp 71) 9, type := 9, pos := "outright.go:20", after := #[{ on := 3, ground := Ground.data }, { on := 6, ground := Ground.data }], guard := none }) (v := ?v1x14) rfl (by kernel_rfl) (by kernel_rfl) (by kernel_rfl) (fun _ _ _ h => h) (Or.inl ⟨by rfl, ?y1x14⟩) hn ?r1x14
  case y1x14 => (intro wS hS; go_simp; rw [HJ1.out]; (try go_simp); (try with_reducible rfl))
  try simp only [Act.put, List.setIfInBounds_toArray, List.set_cons_zero, List.set_cons_succ]
  refine wpAnyH_ready (rs := [11]) (by kernel_rfl) (by simp) ?_
  refine AllReadyH.cons (o := { dst := some 76, op := Op.call { callee := Callee.value (Operand.func 26), args := #[Operand.tmp 74, Operand.tmp 75], argTypes := #[28, 3] }, type := 9, pos := "outright.go:20", after := #[{ on := 9, ground := Ground.data }, { on := 10, ground := Ground.data }, { on := 6, ground := Ground.chain }], guard := none }) rfl (fun K hK => ?_) AllReadyH.nil
  go_simp
  refine (HP3.out _).mono ?_
  rintro e ws ⟨rfl, hnq⟩
  go_wp2_with fail
  have hn := hn.new hnq
  (try have hz6 := hz6.new hnq)
  refine hK.out _ _ (by first | exact hn | exact Upd.alloc hn _) (fun hn => ?_)
  clear hK K
  try simp only [Act.put, List.setIfInBounds_toArray, List.set_cons_zero, List.set_cons_succ]
  refine wpAnyH_take (i := 12) (oi := { dst := some 77, op := Op.binOp BinOp.add 9 (Operand.tmp 72) (Operand.tmp 76) 9, type := 9, pos := "outright.go:20", after := #[{ on := 7, ground := Ground.data }, { on := 11, ground := Ground.data }], guard := none }) (v := ?v1x15) rfl (by kernel_rfl) (by kernel_rfl) (by kernel_rfl) (fun _ _ _ h => h) (Or.inl ⟨by rfl, ?y1x15⟩) hn ?r1x15
  case y1x15 => (intro wS hS; go_simp; rw [HJ2.out]; (try go_simp); (try with_reducible rfl))
  try simp only [Act.put, List.setIfInBounds_toArray, List.set_cons_zero, List.set_cons_succ]
  refine wpAnyH_ready (rs := [13]) (by kernel_rfl) (by simp) ?_
  refine AllReadyH.cons (o := { dst := some 78, op := Op.convert 9 50 (Operand.tmp 77), type := 50, pos := "outright.go:20", after := #[{ on := 12, ground := Ground.data }], guard := none }) rfl (fun K hK => ?_) AllReadyH.nil
  go_simp
  refine upon_str ?_
  intro vb wb hrb hnb hfb
  rw [show lb (⟨LB.toArray⟩ : ByteArray) = LB from rfl] at hrb
  obtain ⟨a6, c6, rfl⟩ := hrb.shape
  have hne6 : (Value.slice a6 LB.length c6).ownBlock ≠ some g6 := (fun e => by have h1 := hfb _ e; have h2 := hz6.lt; omega)
  have hn := hn.new hnb
  have hz6 := hz6.new hnb
  clear hfb
  refine hK.out _ _ (by first | exact hn | exact Upd.alloc hn _) (fun hn => ?_)
  clear hK K
  try simp only [Act.put, List.setIfInBounds_toArray, List.set_cons_zero, List.set_cons_succ]
  refine wpAnyH_ready (rs := [15]) (by kernel_rfl) (by simp) ?_
  refine AllReadyH.cons (o := { dst := none, op := Op.store 50 (Operand.tmp 6) (Operand.tmp 78), type := 0, pos := "outright.go:20", after := #[{ on := 14, ground := Ground.data }, { on := 13, ground := Ground.data }, { on := 11, ground := Ground.chain }, { on := 0, ground := Ground.phase }, { on := 1, ground := Ground.phase }, { on := 2, ground := Ground.phase }, { on := 3, ground := Ground.phase }, { on := 4, ground := Ground.phase }, { on := 5, ground := Ground.phase }, { on := 6, ground := Ground.phase }, { on := 7, ground := Ground.phase }, { on := 8, ground := Ground.phase }, { on := 9, ground := Ground.phase }, { on := 10, ground := Ground.phase }, { on := 11, ground := Ground.phase }, { on := 12, ground := Ground.phase }, { on := 13, ground := Ground.phase }, { on := 14, ground := Ground.phase }], guard := none }) rfl (fun K hK => ?_) AllReadyH.nil
  have z := hz6.c
  have f := hz6.f
  go_simp
  refine put1Step hz6 ?_
  intro W9 hus hz9
  clear z f
  have hrb := hrb.upd hus (fun k hk e => hne6 (by rw [hk, e]))
  have hn := hn.upd hus (fun k hk => by omega)
  refine hK.out _ _ (by first | exact hn | exact Upd.alloc hn _) (fun hn => ?_)
  clear hK K
  try simp only [Act.put, List.setIfInBounds_toArray, List.set_cons_zero, List.set_cons_succ]
  refine wpAnyH_done (by kernel_rfl) ?_ _
  refine NoPanic.normal ?_
  have e9 := HLB.out
  exact HK.out _ _ _ _ _ _ _ _ _ _ _ _ _ _ g6 a6 c6 W9 hl6 ⟨hn, by rw [e9]; exact hz9, by rw [e9]; exact hrb⟩

end Go.Proofs.Ytjagimlmclejeaa

namespace Go.Proofs.Ytjagimlmclejeaa
open Go.RowKit Go.Proofs.Leb Go.Proofs.Own
set_option maxRecDepth 100000
set_option maxHeartbeats 8000000


noncomputable def wb7code : Code := (Try.f4.body.bind (findRegion 7)).getD .skip
theorem wb7_any {K : Act → World → Prop} {Q : Exit → Act → World → Prop} (w W0 : World) (X : TyM) (g6 : Nat) (v6 : Value) (bs : List UInt8)
    (h0 : Yb w X g6 v6 bs W0) (hok : TyOk X) (hl6 : ∀ k, v6.ownBlock = some k → k < W0.heap.size) (t0 t1 t3 t4 t5 t6 t7 t8 t9 t10 t11 t12 t13 t14 t15 t16 t17 t18 t19 t20 t21 t22 t23 t24 t25 t26 t27 t28 t29 t30 t31 t32 t33 t34 t35 t36 t37 t38 t39 t40 t41 t42 t43 t44 t45 t46 t47 t48 t49 t50 t51 t52 t53 t54 t55 t56 t57 t58 t59 t60 t61 t62 t63 t64 t65 t66 t67 t68 t69 t70 t71 t72 t73 t74 t75 t76 t77 t78 t79 t80 t81 t82 t83 t84 t85 t86 t87 t88 t89 t90 t91 t92 t93 t94 t95 t96 t97 t98 t99 t100 t101 t102 t103 t104 t105 t106 t107 t108 t109 t110 t111 t112 t113 t114 t115 t116 t117 t118 t119 t120 t121 t122 t123 t124 t125 t126 t127 t128 t129 t130 t131 t132 t133 t134 t135 t136 t137 t138 t139 t140 : Value)
    (hK : ∀ (v79 v80 v81 v82 v83 v84 v85 v86 v87 v88 v89 v90 : Value) (a7 : Option Addr) (c7 : Nat) (W2 : World), Bytes W2 (.slice a7 (allB X 0).length c7) (allB X 0) → Yb w X g6 v6 bs W2 → (Value.slice a7 (allB X 0).length c7).ownBlock ≠ some g6 → K ⟨#[t0, t1, .pointer (some ⟨w.heap.size, 0, none⟩), t3, t4, t5, t6, .slice a7 (allB X 0).length c7, t8, t9, t10, t11, t12, t13, t14, t15, t16, t17, t18, t19, t20, t21, t22, t23, t24, t25, t26, t27, t28, t29, t30, t31, t32, t33, t34, t35, t36, t37, t38, t39, t40, t41, t42, t43, t44, t45, t46, t47, t48, t49, t50, t51, t52, t53, t54, t55, t56, t57, t58, t59, t60, t61, t62, t63, t64, t65, t66, t67, t68, t69, t70, t71, t72, t73, t74, t75, t76, t77, t78, v79, v80, v81, v82, v83, v84, v85, v86, v87, v88, v89, v90, t91, t92, t93, t94, t95, t96, t97, t98, t99, t100, t101, t102, t103, t104, t105, t106, t107, t108, t109, t110, t111, t112, t113, t114, t115, t116, t117, t118, t119, t120, t121, t122, t123, t124, t125, t126, t127, t128, t129, t130, t131, t132, t133, t134, t135, t136, t137, t138, t139, t140], []⟩ W2) :
    Code.wp Try.prog wb7code (Exit.then K Q) ⟨#[t0, t1, .pointer (some ⟨w.heap.size, 0, none⟩), t3, t4, t5, t6, t7, t8, t9, t10, t11, t12, t13, t14, t15, t16, t17, t18, t19, t20, t21, t22, t23, t24, t25, t26, t27, t28, t29, t30, t31, t32, t33, t34, t35, t36, t37, t38, t39, t40, t41, t42, t43, t44, t45, t46, t47, t48, t49, t50, t51, t52, t53, t54, t55, t56, t57, t58, t59, t60, t61, t62, t63, t64, t65, t66, t67, t68, t69, t70, t71, t72, t73, t74, t75, t76, t77, t78, t79, t80, t81, t82, t83, t84, t85, t86, t87, t88, t89, t90, t91, t92, t93, t94, t95, t96, t97, t98, t99, t100, t101, t102, t103, t104, t105, t106, t107, t108, t109, t110, t111, t112, t113, t114, t115, t116, t117, t118, t119, t120, t121, t122, t123, t124, t125, t126, t127, t128, t129, t130, t131, t132, t133, t134, t135, t136, t137, t138, t139, t140], []⟩ W0 := by
  have HK := hid hK
  clear hK
  have l1 := lb_len X.p
  have l2 := lb_len X.r
  have s1 := hok.p
  have s2 := hok.r
  have k0 := (allB_len hok 0).1
  have k1 := (allB_len hok 0).2.1
  have HT := hid (fun w' => ownTb_any ⟨X.e.toNat, X.th, X.tn, X.tx⟩ w')
  have HG := hid (fun w' => own05_any X.gt.toNat X.gm w')
  have HF := hid (fun w' => ownFn_any ⟨X.p, X.r⟩ w' (by simp only; omega) (by simp only; omega))
  unfold OwnC0 tbC at HT
  simp only at HT
  obtain ⟨B1, hB1⟩ : ∃ B, fnB (lb X.p) (lb X.r) 0 = B := ⟨_, rfl⟩
  obtain ⟨B3, hB3⟩ : ∃ B, tbB X.e X.th X.tn X.tx 0 = B := ⟨_, rfl⟩
  rw [hB1] at k1
  have HP1 : Hid (∀ W (u1 u2 : Value), VBytes W u1 (lb X.p) → VBytes W u2 (lb X.r) → Calls Try.prog 19 #[.agg #[u1, u2], .slice none 0 0] W (Post W (.slice none 0 0) B1)) := fun W u1 u2 h1 h2 => by
    have := fnPut_any u1 u2 (lb X.p) (lb X.r) (.slice none 0 0) [] W (Bytes.nil W) (by simp) h1.rd h2.rd (fun k hk => by cases hk) (fun k hk => by cases hk) h1.lt h2.lt (by omega) (by omega)
    rw [List.nil_append, hB1] at this
    exact this
  have HP2 := hid (fun W v (hb : Bytes W v B1) => gtPut_any X.gt X.gm v B1 W hb (by omega))
  have HP3 : Hid (∀ W v, Bytes W v (B1 ++ [X.gt, bitB X.gm]) → Calls Try.prog 25 #[.agg #[.int .u8 X.e.toNat, .bool X.th, .int .u32 (X.tn : Nat), .int .u32 (X.tx : Nat)], v] W (Post W v (allB X 0))) := fun W v hb => by
    have := tbPut_any X.e X.th X.tn X.tx v (B1 ++ [X.gt, bitB X.gm]) W hb (by simp; omega) hok.wf.tn hok.wf.tx
    rw [hB3, List.append_assoc] at this
    have e : allB X 0 = B1 ++ ([X.gt, bitB X.gm] ++ B3) := by unfold allB; rw [hB1, hB3]
    rw [e]
    exact this
  generalize allB X 0 = SB at *
  clear hB1 hB3 k0 k1 l1 l2 s1 s2 hok
  conv => arg 2; whnf
  have HS0 := hid h0
  have HL6 := hid hl6
  clear h0 hl6
  have hn := HS0.out.new (Upd.refl _ W0).drew
  have hlo : w.heap.size < W0.drew.heap.size := HS0.out.xb.lt
  have hlg : g6 < W0.drew.heap.size := HS0.out.b6.lt
  have hl8 : ∀ k, v6.ownBlock = some k → k < W0.drew.heap.size := HL6.out
  refine wp_region_noPanic ?_
  refine wp_region_held_drew (S := (Yb w X g6 v6 bs)) (by kernel_rfl) (by first | exact hn | exact (Upd.refl _ _).drew | exact Upd.drew (by assumption)) (fun hn => ?_)
  generalize W0.drew = wd at *
  have hN := Upd.refl (fun _ => False) wd
  refine wpAnyH_take (i := 0) (oi := { dst := some 79, op := Op.fieldAddr 32 (Operand.tmp 2) 3, type := 0, pos := "outright.go:21", after := #[], guard := none }) (v := ?v1x1) rfl (by kernel_rfl) (by kernel_rfl) (by kernel_rfl) (fun _ _ _ h => h) (Or.inl ⟨by rfl, ?y1x1⟩) hn ?r1x1
  case y1x1 => (intro wS hS; (try go_simp); (try with_reducible rfl))
  try simp only [Act.put, List.setIfInBounds_toArray, List.set_cons_zero, List.set_cons_succ]
  refine wpAnyH_take (i := 1) (oi := { dst := some 80, op := Op.load 28 (Operand.tmp 79), type := 28, pos := "outright.go:21", after := #[{ on := 0, ground := Ground.data }], guard := none }) (v := ?v1x2) rfl (by kernel_rfl) (by kernel_rfl) (by kernel_rfl) (fun _ _ _ h => h) (Or.inl ⟨by rfl, ?y1x2⟩) hn ?r1x2
  case y1x2 => (intro wS hS; have c0 : wS.cell? ⟨w.heap.size, 6, none⟩ = some (.int .u8 X.e.toNat) := hS.xb.atx 6 rfl; have c1 : wS.cell? ⟨w.heap.size, 7, none⟩ = some (.bool X.th) := hS.xb.atx 7 rfl; have c2 : wS.cell? ⟨w.heap.size, 8, none⟩ = some (.int .u32 (X.tn : Nat)) := hS.xb.atx 8 rfl; have c3 : wS.cell? ⟨w.heap.size, 9, none⟩ = some (.int .u32 (X.tx : Nat)) := hS.xb.atx 9 rfl; (try go_simp); (try with_reducible rfl))
  try simp only [Act.put, List.setIfInBounds_toArray, List.set_cons_zero, List.set_cons_succ]
  refine wpAnyH_take (i := 3) (oi := { dst := some 82, op := Op.fieldAddr 32 (Operand.tmp 2) 4, type := 0, pos := "outright.go:21", after := #[], guard := none }) (v := ?v1x3) rfl (by kernel_rfl) (by kernel_rfl) (by kernel_rfl) (fun _ _ _ h => h) (Or.inl ⟨by rfl, ?y1x3⟩) hn ?r1x3
  case y1x3 => (intro wS hS; (try go_simp); (try with_reducible rfl))
  try simp only [Act.put, List.setIfInBounds_toArray, List.set_cons_zero, List.set_cons_succ]
  refine wpAnyH_take (i := 4) (oi := { dst := some 83, op := Op.load 30 (Operand.tmp 82), type := 30, pos := "outright.go:21", after := #[{ on := 3, ground := Ground.data }], guard := none }) (v := ?v1x4) rfl (by kernel_rfl) (by kernel_rfl) (by kernel_rfl) (fun _ _ _ h => h) (Or.inl ⟨by rfl, ?y1x4⟩) hn ?r1x4
  case y1x4 => (intro wS hS; have c0 : wS.cell? ⟨w.heap.size, 10, none⟩ = some (.int .u8 X.gt.toNat) := hS.xb.atx 10 rfl; have c1 : wS.cell? ⟨w.heap.size, 11, none⟩ = some (.bool X.gm) := hS.xb.atx 11 rfl; (try go_simp); (try with_reducible rfl))
  try simp only [Act.put, List.setIfInBounds_toArray, List.set_cons_zero, List.set_cons_succ]
  refine wpAnyH_take (i := 6) (oi := { dst := some 85, op := Op.fieldAddr 32 (Operand.tmp 2) 1, type := 0, pos := "outright.go:21", after := #[], guard := none }) (v := ?v1x5) rfl (by kernel_rfl) (by kernel_rfl) (by kernel_rfl) (fun _ _ _ h => h) (Or.inl ⟨by rfl, ?y1x5⟩) hn ?r1x5
  case y1x5 => (intro wS hS; (try go_simp); (try with_reducible rfl))
  try simp only [Act.put, List.setIfInBounds_toArray, List.set_cons_zero, List.set_cons_succ]
  refine wpAnyH_take (i := 7) (oi := { dst := some 86, op := Op.load 23 (Operand.tmp 85), type := 23, pos := "outright.go:21", after := #[{ on := 6, ground := Ground.data }], guard := none }) (v := ?v1x6) rfl (by kernel_rfl) (by kernel_rfl) (by kernel_rfl) (fun _ _ _ h => h) (Or.inl ⟨by rfl, ?y1x6⟩) hn ?r1x6
  case y1x6 => (intro wS hS; have c0 : wS.cell? ⟨w.heap.size, 1, none⟩ = some (.string X.p) := hS.xb.atx 1 rfl; have c1 : wS.cell? ⟨w.heap.size, 2, none⟩ = some (.string X.r) := hS.xb.atx 2 rfl; (try go_simp); (try with_reducible rfl))
  try simp only [Act.put, List.setIfInBounds_toArray, List.set_cons_zero, List.set_cons_succ]
  refine wpAnyH_ready (rs := [2]) (by kernel_rfl) (by simp) ?_
  refine AllReadyH.cons (o := { dst := some 81, op := Op.call { callee := Callee.value (Operand.func 7), args := #[Operand.tmp 80], argTypes := #[28] }, type := 41, pos := "outright.go:21", after := #[{ on := 1, ground := Ground.data }], guard := none }) rfl (fun K hK => ?_) AllReadyH.nil
  go_simp
  refine (HT.out _).mono ?_
  rintro e wq ⟨rfl, hnq⟩
  go_wp2_with fail
  have hn := hn.new hnq
  have hN := New.trans hN hnq
  refine hK.out _ _ (by first | exact hn | exact Upd.alloc hn _) (fun hn => ?_)
  clear hK K
  try simp only [Act.put, List.setIfInBounds_toArray, List.set_cons_zero, List.set_cons_succ]
  refine wpAnyH_ready (rs := [5]) (by kernel_rfl) (by simp) ?_
  refine AllReadyH.cons (o := { dst := some 84, op := Op.call { callee := Callee.value (Operand.func 8), args := #[Operand.tmp 83], argTypes := #[30] }, type := 44, pos := "outright.go:21", after := #[{ on := 4, ground := Ground.data }, { on := 2, ground := Ground.chain }], guard := none }) rfl (fun K hK => ?_) AllReadyH.nil
  go_simp
  refine (HG.out _).mono ?_
  rintro e wr ⟨rfl, hnq⟩
  go_wp2_with fail
  have hn := hn.new hnq
  have hN := New.trans hN hnq
  refine hK.out _ _ (by first | exact hn | exact Upd.alloc hn _) (fun hn => ?_)
  clear hK K
  try simp only [Act.put, List.setIfInBounds_toArray, List.set_cons_zero, List.set_cons_succ]
  refine wpAnyH_ready (rs := [8]) (by kernel_rfl) (by simp) ?_
  refine AllReadyH.cons (o := { dst := some 87, op := Op.call { callee := Callee.value (Operand.func 5), args := #[Operand.tmp 86], argTypes := #[23] }, type := 35, pos := "outright.go:21", after := #[{ on := 7, ground := Ground.data }, { on := 5, ground := Ground.chain }], guard := none }) rfl (fun K hK => ?_) AllReadyH.nil
  go_simp
  refine (HF.out _).mono ?_
  rintro e ws ⟨u1, u2, rfl, hr1, hr2, -, -, hnq⟩
  obtain ⟨y1, m1, d1, rfl⟩ : ∃ a n c, u1 = .slice a n c := (by obtain ⟨a, c, e⟩ := hr1.rd.shape; exact ⟨a, _, c, e⟩)
  obtain ⟨y2, m2, d2, rfl⟩ : ∃ a n c, u2 = .slice a n c := (by obtain ⟨a, c, e⟩ := hr2.rd.shape; exact ⟨a, _, c, e⟩)
  go_wp2_with fail
  have hn := hn.new hnq
  have hN := New.trans hN hnq
  refine hK.out _ _ (by first | exact hn | exact Upd.alloc hn _) (fun hn => ?_)
  clear hK K
  try simp only [Act.put, List.setIfInBounds_toArray, List.set_cons_zero, List.set_cons_succ]
  refine wpAnyH_ready (rs := [9]) (by kernel_rfl) (by simp) ?_
  refine AllReadyH.cons (o := { dst := some 88, op := Op.call { callee := Callee.value (Operand.func 19), args := #[Operand.tmp 87, Operand.const (Value.slice none 0 0)], argTypes := #[35, 50] }, type := 50, pos := "outright.go:21", after := #[{ on := 8, ground := Ground.data }, { on := 8, ground := Ground.chain }], guard := none }) rfl (fun K hK => ?_) AllReadyH.nil
  go_simp
  refine (HP1.out _ _ _ hr1 hr2).mono ?_
  rintro e wt ⟨v4, rfl, hb4, ha4⟩
  obtain ⟨hnq, hf4⟩ := Adds.nil ha4
  obtain ⟨a4, m4, c4, rfl⟩ : ∃ a n c, v4 = .slice a n c := (by obtain ⟨a, c, e⟩ := hb4.rd.shape; exact ⟨a, _, c, e⟩)
  go_wp2_with fail
  have hn := hn.new hnq
  have hf4 := Fresh.of_new hN hf4
  have hN := New.trans hN hnq
  clear ha4
  refine hK.out _ _ (by first | exact hn | exact Upd.alloc hn _) (fun hn => ?_)
  clear hK K
  try simp only [Act.put, List.setIfInBounds_toArray, List.set_cons_zero, List.set_cons_succ]
  refine wpAnyH_ready (rs := [10]) (by kernel_rfl) (by simp) ?_
  refine AllReadyH.cons (o := { dst := some 89, op := Op.call { callee := Callee.value (Operand.func 27), args := #[Operand.tmp 84, Operand.tmp 88], argTypes := #[44, 50] }, type := 50, pos := "outright.go:21", after := #[{ on := 5, ground := Ground.data }, { on := 9, ground := Ground.data }, { on := 9, ground := Ground.chain }], guard := none }) rfl (fun K hK => ?_) AllReadyH.nil
  go_simp
  refine (HP2.out _ _ hb4).mono ?_
  rintro e wu ⟨v5, rfl, hb5, ha5⟩
  obtain ⟨a5, m5, c5, rfl⟩ : ∃ a n c, v5 = .slice a n c := (by obtain ⟨a, c, e⟩ := hb5.rd.shape; exact ⟨a, _, c, e⟩)
  go_wp2_with fail
  have hn := hn.upd ha5.upd (fun k hk => by have := hf4 k hk; omega) (fun hk => by have := hf4 _ hk; omega) (fun k hk hS => by have := hf4 k hS; have := hl8 k hk; omega)
  have hf5 := hf4.adds hN.size ha5
  have hN := Upd.newAdds hN hf4 ha5
  clear ha5
  refine hK.out _ _ (by first | exact hn | exact Upd.alloc hn _) (fun hn => ?_)
  clear hK K
  try simp only [Act.put, List.setIfInBounds_toArray, List.set_cons_zero, List.set_cons_succ]
  refine wpAnyH_ready (rs := [11]) (by kernel_rfl) (by simp) ?_
  refine AllReadyH.cons (o := { dst := some 90, op := Op.call { callee := Callee.value (Operand.func 25), args := #[Operand.tmp 81, Operand.tmp 89], argTypes := #[41, 50] }, type := 50, pos := "outright.go:21", after := #[{ on := 2, ground := Ground.data }, { on := 10, ground := Ground.data }, { on := 10, ground := Ground.chain }], guard := none }) rfl (fun K hK => ?_) AllReadyH.nil
  go_simp
  refine (HP3.out _ _ hb5).mono ?_
  rintro e wv ⟨v7, rfl, hb7, ha7⟩
  obtain ⟨a7, c7, rfl⟩ := hb7.rd.shape
  go_wp2_with fail
  have hn := hn.upd ha7.upd (fun k hk => by have := hf5 k hk; omega) (fun hk => by have := hf5 _ hk; omega) (fun k hk hS => by have := hf5 k hS; have := hl8 k hk; omega)
  refine hK.out _ _ (by first | exact hn | exact Upd.alloc hn _) (fun hn => ?_)
  clear hK K
  try simp only [Act.put, List.setIfInBounds_toArray, List.set_cons_zero, List.set_cons_succ]
  refine wpAnyH_take (i := 12) (oi := { dst := some 7, op := Op.assign (Operand.tmp 90), type := 50, pos := "outright.go:21", after := #[{ on := 11, ground := Ground.data }, { on := 11, ground := Ground.chain }, { on := 0, ground := Ground.phase }, { on := 1, ground := Ground.phase }, { on := 2, ground := Ground.phase }, { on := 3, ground := Ground.phase }, { on := 4, ground := Ground.phase }, { on := 5, ground := Ground.phase }, { on := 6, ground := Ground.phase }, { on := 7, ground := Ground.phase }, { on := 8, ground := Ground.phase }, { on := 9, ground := Ground.phase }, { on := 10, ground := Ground.phase }, { on := 11, ground := Ground.phase }], guard := none }) (v := ?v1x7) rfl (by kernel_rfl) (by kernel_rfl) (by kernel_rfl) (fun _ _ _ h => h) (Or.inl ⟨by rfl, ?y1x7⟩) hn ?r1x7
  case y1x7 => (intro wS hS; (try go_simp); (try with_reducible rfl))
  try simp only [Act.put, List.setIfInBounds_toArray, List.set_cons_zero, List.set_cons_succ]
  refine wpAnyH_done (by kernel_rfl) ?_ _
  refine NoPanic.normal ?_
  have hf7 := hf5.adds hN.size ha7
  exact HK.out _ _ _ _ _ _ _ _ _ _ _ _ a7 c7 _ hb7 hn (fun e => by have := hf7 _ e; omega)

end Go.Proofs.Ytjagimlmclejeaa
