/-
  WtypePuts: the four types of the document as the program's, each in a cell of its own, in whatever order.
-/
import Derived.Test.YtjagimlmclejeaaJ32
import Derived.Test.YtjagimlmclejeaaJ34
import Derived.Test.YtjagimlmclejeaaJ35
import Derived.Test.YtjagimlmclejeaaJ5
namespace Go.Proofs.Ytjagimlmclejeaa
open Go.RowKit Go.Proofs.Leb Go.Proofs.Own
set_option maxRecDepth 100000
set_option maxHeartbeats 8000000

/-- what came in, in boxes -/
def Tw (w : World) (cx co : Array Value) (W : World) : Prop := New w W ∧ W.heap[w.heap.size]? = some (.cells cx 32) ∧ W.heap[w.heap.size + 1]? = some (.cells co 23) ∧ w.heap.size + 2 ≤ W.heap.size
theorem Tw.new {w a b : World} {cx co : Array Value} (h : Tw w cx co a) (k : New a b) : Tw w cx co b := ⟨New.trans h.1 k, hp1 h.2.1 k, hp1 h.2.2.1 k, Nat.le_trans h.2.2.2 k.size⟩
theorem Tw.atx {w a : World} {cx co : Array Value} (h : Tw w cx co a) (i : Nat) {v : Value} (hv : cx[i]? = some v) : a.cell? ⟨w.heap.size, i, none⟩ = some v := cellAt h.2.1 i hv
theorem Tw.ato {w a : World} {cx co : Array Value} (h : Tw w cx co a) (i : Nat) {v : Value} (hv : co[i]? = some v) : a.cell? ⟨w.heap.size + 1, i, none⟩ = some v := cellAt h.2.2.1 i hv
theorem Tw.set {w a b : World} {cx co : Array Value} {g : Nat} (h : Tw w cx co a) (hu : Upd (fun k => k = g) a b) (hg : w.heap.size + 2 ≤ g) : Tw w cx co b :=
  ⟨Upd.trans h.1 hu (fun i hi e => by omega), (hu.block _ (by have := h.2.2.2; omega) (by omega)).trans h.2.1, (hu.block _ (by have := h.2.2.2; omega) (by omega)).trans h.2.2.1, Nat.le_trans h.2.2.2 hu.size⟩
/-- the four types in cells of their own -/
structure W4 (w : World) (cx co : Array Value) (p r : List UInt8) (l t g : Array Value) (g5 g6 g7 g8 : Nat) (u1 u2 : Value) (W : World) : Prop where
  tw : Tw w cx co W
  b5 : W.heap[g5]? = some (.cells #[u1, u2] 35)
  b6 : W.heap[g6]? = some (.cells l 37)
  b7 : W.heap[g7]? = some (.cells t 41)
  b8 : W.heap[g8]? = some (.cells g 44)
  r1 : VBytes W u1 p
  r2 : VBytes W u2 r
theorem W4.new {w : World} {cx co : Array Value} {p r : List UInt8} {l t g : Array Value} {g5 g6 g7 g8 : Nat} {u1 u2 : Value} {a b : World} (h : W4 w cx co p r l t g g5 g6 g7 g8 u1 u2 a) (k : New a b) : W4 w cx co p r l t g g5 g6 g7 g8 u1 u2 b :=
  ⟨h.tw.new k, hp1 h.b5 k, hp1 h.b6 k, hp1 h.b7 k, hp1 h.b8 k, h.r1.new k, h.r2.new k⟩
theorem hpS {a b : World} {g k : Nat} {o : Obj} (h : a.heap[k]? = some o) (hu : Upd (fun i => i = g) a b) (hne : k ≠ g) : b.heap[k]? = some o := (hu.block k (Array.getElem?_eq_some_iff.1 h).1 hne).trans h
theorem ty_ne {a : World} {g k : Nat} {c d : Array Value} {s t : TypeId} (h : a.heap[g]? = some (.cells c s)) (h2 : a.heap[k]? = some (.cells d t)) (hn : s ≠ t) : g ≠ k := fun e => by
  rw [e, h2] at h
  injection h with h
  injection h with _ h
  exact hn h.symm
theorem bool_all {a b c d e f g h : Bool} (hn : 0 + (a.toNat + b.toNat + c.toNat + d.toNat + e.toNat + f.toNat + g.toNat + h.toNat) = 8) : a = true ∧ b = true ∧ c = true ∧ d = true ∧ e = true ∧ f = true ∧ g = true ∧ h = true := by
  have h1 := Bool.toNat_le a
  have h2 := Bool.toNat_le b
  have h3 := Bool.toNat_le c
  have h4 := Bool.toNat_le d
  have h5 := Bool.toNat_le e
  have h6 := Bool.toNat_le f
  have h7 := Bool.toNat_le g
  have h8 := Bool.toNat_le h
  have bt : ∀ x : Bool, x.toNat = 1 → x = true := fun x hx => by cases x <;> simp_all
  exact ⟨bt a (by omega), bt b (by omega), bt c (by omega), bt d (by omega), bt e (by omega), bt f (by omega), bt g (by omega), bt h (by omega)⟩
noncomputable def wl3code : Code := (Try.f3.body.bind (findRegion 3)).getD .skip

theorem wl3_any {K : Act → World → Prop} {Q : Exit → Act → World → Prop} (w : World) (V : Value) (p r : ByteArray) (lh th gm : Bool) (lmn lmx te tmn tmx gt : Int) (co : Array Value) (W0 : World) (hp : p.size ≤ 100000) (hr : r.size ≤ 100000)
    (h0 : Tw w #[V, .string p, .string r, .bool lh, .int .u32 lmn, .int .u32 lmx, .int .u8 te, .bool th, .int .u32 tmn, .int .u32 tmx, .int .u8 gt, .bool gm] co W0) (t0 t1 t3 t4 t5 t6 t7 t8 t9 t10 t11 t12 t13 t14 t15 t16 t17 t18 t19 t20 t21 t22 t23 t24 t25 t26 t27 t28 t29 t30 t31 t32 t33 t34 t35 t36 t37 t38 t39 t40 t41 t42 t43 t44 t45 t46 t47 t48 t49 t50 t51 t52 t53 t54 t55 t56 t57 t58 t59 t60 t61 t62 t63 t64 t65 t66 t67 t68 t69 t70 t71 t72 t73 t74 t75 t76 t77 t78 t79 t80 t81 t82 t83 t84 t85 t86 t87 t88 t89 t90 t91 t92 t93 t94 t95 t96 t97 t98 t99 t100 t101 t102 t103 t104 t105 t106 t107 t108 t109 t110 t111 t112 t113 t114 t115 t116 t117 t118 t119 t120 t121 t122 t123 t124 t125 t126 t127 t128 t129 t130 t131 t132 t133 t134 t135 t136 t137 t138 t139 t140 t141 t142 t143 t144 t145 t146 t147 t148 t149 t150 t151 t152 t153 t154 t155 t156 t157 t158 t159 t160 t161 t162 t163 t164 t165 t166 t167 t168 t169 t170 t171 t172 t173 t174 t175 t176 t177 t178 t179 t180 t181 t182 t183 t184 t185 t186 t187 t188 t189 t190 t191 t192 t193 t194 t195 t196 t197 t198 t199 t200 t201 t202 t203 t204 : Value)
    (hK : ∀ (v37 v38 v39 v40 v41 v42 v43 v44 v45 v46 v47 v48 u1 u2 : Value) (g5 g6 g7 g8 : Nat) (W2 : World), W4 w #[V, .string p, .string r, .bool lh, .int .u32 lmn, .int .u32 lmx, .int .u8 te, .bool th, .int .u32 tmn, .int .u32 tmx, .int .u8 gt, .bool gm] co (lb p) (lb r) #[.bool lh, .int .u32 lmn, .int .u32 lmx] #[.int .u8 te, .bool th, .int .u32 tmn, .int .u32 tmx] #[.int .u8 gt, .bool gm] g5 g6 g7 g8 u1 u2 W2 → K ⟨#[t0, t1, .pointer (some ⟨w.heap.size, 0, none⟩), t3, t4, .pointer (some ⟨g5, 0, none⟩), .pointer (some ⟨g6, 0, none⟩), .pointer (some ⟨g7, 0, none⟩), .pointer (some ⟨g8, 0, none⟩), t9, t10, t11, t12, t13, t14, t15, t16, t17, t18, t19, t20, t21, t22, t23, t24, t25, t26, t27, t28, t29, t30, t31, t32, t33, t34, t35, t36, v37, v38, v39, v40, v41, v42, v43, v44, v45, v46, v47, v48, t49, t50, t51, t52, t53, t54, t55, t56, t57, t58, t59, t60, t61, t62, t63, t64, t65, t66, t67, t68, t69, t70, t71, t72, t73, t74, t75, t76, t77, t78, t79, t80, t81, t82, t83, t84, t85, t86, t87, t88, t89, t90, t91, t92, t93, t94, t95, t96, t97, t98, t99, t100, t101, t102, t103, t104, t105, t106, t107, t108, t109, t110, t111, t112, t113, t114, t115, t116, t117, t118, t119, t120, t121, t122, t123, t124, t125, t126, t127, t128, t129, t130, t131, t132, t133, t134, t135, t136, t137, t138, t139, t140, t141, t142, t143, t144, t145, t146, t147, t148, t149, t150, t151, t152, t153, t154, t155, t156, t157, t158, t159, t160, t161, t162, t163, t164, t165, t166, t167, t168, t169, t170, t171, t172, t173, t174, t175, t176, t177, t178, t179, t180, t181, t182, t183, t184, t185, t186, t187, t188, t189, t190, t191, t192, t193, t194, t195, t196, t197, t198, t199, t200, t201, t202, t203, t204], []⟩ W2) :
    Code.wp Try.prog wl3code (Exit.then K Q) ⟨#[t0, t1, .pointer (some ⟨w.heap.size, 0, none⟩), t3, t4, t5, t6, t7, t8, t9, t10, t11, t12, t13, t14, t15, t16, t17, t18, t19, t20, t21, t22, t23, t24, t25, t26, t27, t28, t29, t30, t31, t32, t33, t34, t35, t36, t37, t38, t39, t40, t41, t42, t43, t44, t45, t46, t47, t48, t49, t50, t51, t52, t53, t54, t55, t56, t57, t58, t59, t60, t61, t62, t63, t64, t65, t66, t67, t68, t69, t70, t71, t72, t73, t74, t75, t76, t77, t78, t79, t80, t81, t82, t83, t84, t85, t86, t87, t88, t89, t90, t91, t92, t93, t94, t95, t96, t97, t98, t99, t100, t101, t102, t103, t104, t105, t106, t107, t108, t109, t110, t111, t112, t113, t114, t115, t116, t117, t118, t119, t120, t121, t122, t123, t124, t125, t126, t127, t128, t129, t130, t131, t132, t133, t134, t135, t136, t137, t138, t139, t140, t141, t142, t143, t144, t145, t146, t147, t148, t149, t150, t151, t152, t153, t154, t155, t156, t157, t158, t159, t160, t161, t162, t163, t164, t165, t166, t167, t168, t169, t170, t171, t172, t173, t174, t175, t176, t177, t178, t179, t180, t181, t182, t183, t184, t185, t186, t187, t188, t189, t190, t191, t192, t193, t194, t195, t196, t197, t198, t199, t200, t201, t202, t203, t204], []⟩ W0 := by
  have HK := hid hK
  have HF := hid (fun W => ownFn_any ⟨p, r⟩ W hp hr)
  have HL := hid (fun W => ownLm_any ⟨lh, lmn, lmx⟩ W)
  have HT := hid (fun W => ownTb_any ⟨te, th, tmn, tmx⟩ W)
  have HG := hid (fun W => own05_any gt gm W)
  have HTW := hid h0
  unfold OwnC0 lmC at HL
  unfold OwnC0 tbC at HT
  simp only at HF HL HT HG
  clear hK h0
  conv => arg 2; whnf
  have hn := HTW.out.new (Upd.refl (fun _ => False) W0).drew
  refine wp_region_noPanic ?_
  refine wp_region_held_drew (S := (Tw w #[V, .string p, .string r, .bool lh, .int .u32 lmn, .int .u32 lmx, .int .u8 te, .bool th, .int .u32 tmn, .int .u32 tmx, .int .u8 gt, .bool gm] co)) (by kernel_rfl) (by first | exact hn | exact (Upd.refl _ _).drew | exact Upd.drew (by assumption)) (fun hn => ?_)
  generalize W0.drew = wd at *
  refine wpAnyH_take (i := 0) (oi := { dst := some 37, op := Op.fieldAddr 32 (Operand.tmp 2) 1, type := 0, pos := "law.go:96", after := #[], guard := none }) (v := ?v1x1) rfl (by kernel_rfl) (by kernel_rfl) (by kernel_rfl) (fun _ _ _ h => h) (Or.inl ⟨by rfl, ?y1x1⟩) hn ?r1x1
  case y1x1 => (intro wS hS; (try go_simp); (try with_reducible rfl))
  try simp only [Act.put, List.setIfInBounds_toArray, List.set_cons_zero, List.set_cons_succ]
  refine wpAnyH_take (i := 1) (oi := { dst := some 38, op := Op.load 23 (Operand.tmp 37), type := 23, pos := "law.go:96", after := #[{ on := 0, ground := Ground.data }], guard := none }) (v := ?v1x2) rfl (by kernel_rfl) (by kernel_rfl) (by kernel_rfl) (fun _ _ _ h => h) (Or.inl ⟨by rfl, ?y1x2⟩) hn ?r1x2
  case y1x2 => (intro wS hS; have c0 := hS.atx 1 rfl; have c1 := hS.atx 2 rfl; (try go_simp); (try with_reducible rfl))
  try simp only [Act.put, List.setIfInBounds_toArray, List.set_cons_zero, List.set_cons_succ]
  refine wpAnyH_take (i := 3) (oi := { dst := some 40, op := Op.fieldAddr 32 (Operand.tmp 2) 2, type := 0, pos := "law.go:96", after := #[], guard := none }) (v := ?v1x3) rfl (by kernel_rfl) (by kernel_rfl) (by kernel_rfl) (fun _ _ _ h => h) (Or.inl ⟨by rfl, ?y1x3⟩) hn ?r1x3
  case y1x3 => (intro wS hS; (try go_simp); (try with_reducible rfl))
  try simp only [Act.put, List.setIfInBounds_toArray, List.set_cons_zero, List.set_cons_succ]
  refine wpAnyH_take (i := 4) (oi := { dst := some 41, op := Op.load 26 (Operand.tmp 40), type := 26, pos := "law.go:96", after := #[{ on := 3, ground := Ground.data }], guard := none }) (v := ?v1x4) rfl (by kernel_rfl) (by kernel_rfl) (by kernel_rfl) (fun _ _ _ h => h) (Or.inl ⟨by rfl, ?y1x4⟩) hn ?r1x4
  case y1x4 => (intro wS hS; have c0 := hS.atx 3 rfl; have c1 := hS.atx 4 rfl; have c2 := hS.atx 5 rfl; (try go_simp); (try with_reducible rfl))
  try simp only [Act.put, List.setIfInBounds_toArray, List.set_cons_zero, List.set_cons_succ]
  refine wpAnyH_take (i := 6) (oi := { dst := some 43, op := Op.fieldAddr 32 (Operand.tmp 2) 3, type := 0, pos := "law.go:96", after := #[], guard := none }) (v := ?v1x5) rfl (by kernel_rfl) (by kernel_rfl) (by kernel_rfl) (fun _ _ _ h => h) (Or.inl ⟨by rfl, ?y1x5⟩) hn ?r1x5
  case y1x5 => (intro wS hS; (try go_simp); (try with_reducible rfl))
  try simp only [Act.put, List.setIfInBounds_toArray, List.set_cons_zero, List.set_cons_succ]
  refine wpAnyH_take (i := 7) (oi := { dst := some 44, op := Op.load 28 (Operand.tmp 43), type := 28, pos := "law.go:96", after := #[{ on := 6, ground := Ground.data }], guard := none }) (v := ?v1x6) rfl (by kernel_rfl) (by kernel_rfl) (by kernel_rfl) (fun _ _ _ h => h) (Or.inl ⟨by rfl, ?y1x6⟩) hn ?r1x6
  case y1x6 => (intro wS hS; have c0 := hS.atx 6 rfl; have c1 := hS.atx 7 rfl; have c2 := hS.atx 8 rfl; have c3 := hS.atx 9 rfl; (try go_simp); (try with_reducible rfl))
  try simp only [Act.put, List.setIfInBounds_toArray, List.set_cons_zero, List.set_cons_succ]
  refine wpAnyH_take (i := 9) (oi := { dst := some 46, op := Op.fieldAddr 32 (Operand.tmp 2) 4, type := 0, pos := "law.go:96", after := #[], guard := none }) (v := ?v1x7) rfl (by kernel_rfl) (by kernel_rfl) (by kernel_rfl) (fun _ _ _ h => h) (Or.inl ⟨by rfl, ?y1x7⟩) hn ?r1x7
  case y1x7 => (intro wS hS; (try go_simp); (try with_reducible rfl))
  try simp only [Act.put, List.setIfInBounds_toArray, List.set_cons_zero, List.set_cons_succ]
  refine wpAnyH_take (i := 10) (oi := { dst := some 47, op := Op.load 30 (Operand.tmp 46), type := 30, pos := "law.go:96", after := #[{ on := 9, ground := Ground.data }], guard := none }) (v := ?v1x8) rfl (by kernel_rfl) (by kernel_rfl) (by kernel_rfl) (fun _ _ _ h => h) (Or.inl ⟨by rfl, ?y1x8⟩) hn ?r1x8
  case y1x8 => (intro wS hS; have c0 := hS.atx 10 rfl; have c1 := hS.atx 11 rfl; (try go_simp); (try with_reducible rfl))
  try simp only [Act.put, List.setIfInBounds_toArray, List.set_cons_zero, List.set_cons_succ]
  refine wpAnyH_inv (J := fun n l a W => ∃ (b2 b5 b8 b11 b12 b13 b14 b15 : Bool) (x39 x42 x45 x48 x5 x6 x7 x8 : Value), n + (b2.toNat + b5.toNat + b8.toNat + b11.toNat + b12.toNat + b13.toNat + b14.toNat + b15.toNat) = 8 ∧ l = #[true, true, b2, true, true, b5, true, true, b8, true, true, b11, b12, b13, b14, b15, false, false, false, false] ∧ a = ⟨#[t0, t1, .pointer (some ⟨w.heap.size, 0, none⟩), t3, t4, x5, x6, x7, x8, t9, t10, t11, t12, t13, t14, t15, t16, t17, t18, t19, t20, t21, t22, t23, t24, t25, t26, t27, t28, t29, t30, t31, t32, t33, t34, t35, t36, .pointer (some ⟨w.heap.size, 1, none⟩), .agg #[.string p, .string r], x39, .pointer (some ⟨w.heap.size, 3, none⟩), .agg #[.bool lh, .int .u32 lmn, .int .u32 lmx], x42, .pointer (some ⟨w.heap.size, 6, none⟩), .agg #[.int .u8 te, .bool th, .int .u32 tmn, .int .u32 tmx], x45, .pointer (some ⟨w.heap.size, 10, none⟩), .agg #[.int .u8 gt, .bool gm], x48, t49, t50, t51, t52, t53, t54, t55, t56, t57, t58, t59, t60, t61, t62, t63, t64, t65, t66, t67, t68, t69, t70, t71, t72, t73, t74, t75, t76, t77, t78, t79, t80, t81, t82, t83, t84, t85, t86, t87, t88, t89, t90, t91, t92, t93, t94, t95, t96, t97, t98, t99, t100, t101, t102, t103, t104, t105, t106, t107, t108, t109, t110, t111, t112, t113, t114, t115, t116, t117, t118, t119, t120, t121, t122, t123, t124, t125, t126, t127, t128, t129, t130, t131, t132, t133, t134, t135, t136, t137, t138, t139, t140, t141, t142, t143, t144, t145, t146, t147, t148, t149, t150, t151, t152, t153, t154, t155, t156, t157, t158, t159, t160, t161, t162, t163, t164, t165, t166, t167, t168, t169, t170, t171, t172, t173, t174, t175, t176, t177, t178, t179, t180, t181, t182, t183, t184, t185, t186, t187, t188, t189, t190, t191, t192, t193, t194, t195, t196, t197, t198, t199, t200, t201, t202, t203, t204], []⟩ ∧ Tw w #[V, .string p, .string r, .bool lh, .int .u32 lmn, .int .u32 lmx, .int .u8 te, .bool th, .int .u32 tmn, .int .u32 tmx, .int .u8 gt, .bool gm] co W ∧ (b5 = true → b2 = true) ∧ (b8 = true → b5 = true) ∧ (b11 = true → b8 = true) ∧ (b2 = true → ∃ u1 u2 : Value, x39 = .agg #[u1, u2] ∧ VBytes W u1 (lb p) ∧ VBytes W u2 (lb r)) ∧ (b5 = true → x42 = .agg #[.bool lh, .int .u32 lmn, .int .u32 lmx]) ∧ (b8 = true → x45 = .agg #[.int .u8 te, .bool th, .int .u32 tmn, .int .u32 tmx]) ∧ (b11 = true → x48 = .agg #[.int .u8 gt, .bool gm]) ∧ (b12 = true → ∃ g : Nat, x5 = .pointer (some ⟨g, 0, none⟩) ∧ W.heap[g]? = some (.cells #[.slice none 0 0, .slice none 0 0] 35) ∧ w.heap.size + 2 ≤ g) ∧ (b13 = true → ∃ g : Nat, x6 = .pointer (some ⟨g, 0, none⟩) ∧ W.heap[g]? = some (.cells #[.bool false, .int .u32 0, .int .u32 0] 37) ∧ w.heap.size + 2 ≤ g) ∧ (b14 = true → ∃ g : Nat, x7 = .pointer (some ⟨g, 0, none⟩) ∧ W.heap[g]? = some (.cells #[.int .u8 0, .bool false, .int .u32 0, .int .u32 0] 41) ∧ w.heap.size + 2 ≤ g) ∧ (b15 = true → ∃ g : Nat, x8 = .pointer (some ⟨g, 0, none⟩) ∧ W.heap[g]? = some (.cells #[.int .u8 0, .bool false] 44) ∧ w.heap.size + 2 ≤ g)) 4 ?h0_1 ?h1_1 ?hs_1 8 _ _ _ ?hi_1
  case hi_1 =>
    exact ⟨false, false, false, false, false, false, false, false, _, _, _, _, _, _, _, _, rfl, rfl, rfl, hn, (fun h => by cases h), (fun h => by cases h), (fun h => by cases h), (fun h => by cases h), (fun h => by cases h), (fun h => by cases h), (fun h => by cases h), (fun h => by cases h), (fun h => by cases h), (fun h => by cases h), (fun h => by cases h)⟩
  case h1_1 =>
    rintro n l a W ⟨b2, b5, b8, b11, b12, b13, b14, b15, x39, x42, x45, x48, x5, x6, x7, x8, hcnt, rfl, rfl, htw, c5, c8, c11, f2, f5, f8, f11, f12, f13, f14, f15⟩
    cases b12
    exact ⟨12, of_decide_eq_true (by kernel_rfl), rfl, by kernel_rfl⟩
    cases b13
    exact ⟨13, of_decide_eq_true (by kernel_rfl), rfl, by kernel_rfl⟩
    cases b14
    exact ⟨14, of_decide_eq_true (by kernel_rfl), rfl, by kernel_rfl⟩
    cases b15
    exact ⟨15, of_decide_eq_true (by kernel_rfl), rfl, by kernel_rfl⟩
    cases b2
    exact ⟨2, of_decide_eq_true (by kernel_rfl), rfl, by kernel_rfl⟩
    cases b5
    exact ⟨5, of_decide_eq_true (by kernel_rfl), rfl, by kernel_rfl⟩
    cases b8
    exact ⟨8, of_decide_eq_true (by kernel_rfl), rfl, by kernel_rfl⟩
    cases b11
    exact ⟨11, of_decide_eq_true (by kernel_rfl), rfl, by kernel_rfl⟩
    exact absurd hcnt (by simp)
  case hs_1 =>
    rintro n l a W ⟨b2, b5, b8, b11, b12, b13, b14, b15, x39, x42, x45, x48, x5, x6, x7, x8, hcnt, rfl, rfl, htw, c5, c8, c11, f2, f5, f8, f11, f12, f13, f14, f15⟩ i hi hl hd
    match i, hi, hl, hd with
    | 0, _, hl, _ => exact absurd hl (by simp)
    | 1, _, hl, _ => exact absurd hl (by simp)
    | 2, _, hl, hd =>
      refine wpOp_step (o := { dst := some 39, op := Op.call { callee := Callee.value (Operand.func 5), args := #[Operand.tmp 38], argTypes := #[23] }, type := 35, pos := "law.go:96", after := #[{ on := 1, ground := Ground.data }], guard := none }) rfl (fun K hK => ?_)
      have HK := hid hK
      clear hK
      have hb : b2 = false := hl
      subst hb
      have HCN := hid hcnt
      have HD := hid hd
      have C5 := hid c5
      have C8 := hid c8
      have C11 := hid c11
      have F2 := hid f2
      have F5 := hid f5
      have F8 := hid f8
      have F11 := hid f11
      have F12 := hid f12
      have F13 := hid f13
      have F14 := hid f14
      have F15 := hid f15
      have HTT := hid htw
      clear hcnt hd c5 c8 c11 htw f2 f5 f8 f11 f12 f13 f14 f15 hl hi
      go_simp
      refine (HF.out W).mono ?_
      rintro e WW ⟨u1, u2, rfl, hr1, hr2, hl1, hl2, hnq⟩
      go_wp2_with fail
      have hnw := HTT.out.new hnq
      have hcnt := HCN.out
      have hd := HD.out
      have c5 := C5.out
      have c8 := C8.out
      have c11 := C11.out
      have f2 := F2.out
      have f5 := F5.out
      have f8 := F8.out
      have f11 := F11.out
      have f12 := F12.out
      have f13 := F13.out
      have f14 := F14.out
      have f15 := F15.out
      have f12 := (fun h => (by obtain ⟨g, e, z, le⟩ := f12 h; exact ⟨g, e, hp1 z hnq, le⟩) : b12 = true → ∃ g : Nat, x5 = .pointer (some ⟨g, 0, none⟩) ∧ WW.heap[g]? = some (.cells #[.slice none 0 0, .slice none 0 0] 35) ∧ w.heap.size + 2 ≤ g)
      have f13 := (fun h => (by obtain ⟨g, e, z, le⟩ := f13 h; exact ⟨g, e, hp1 z hnq, le⟩) : b13 = true → ∃ g : Nat, x6 = .pointer (some ⟨g, 0, none⟩) ∧ WW.heap[g]? = some (.cells #[.bool false, .int .u32 0, .int .u32 0] 37) ∧ w.heap.size + 2 ≤ g)
      have f14 := (fun h => (by obtain ⟨g, e, z, le⟩ := f14 h; exact ⟨g, e, hp1 z hnq, le⟩) : b14 = true → ∃ g : Nat, x7 = .pointer (some ⟨g, 0, none⟩) ∧ WW.heap[g]? = some (.cells #[.int .u8 0, .bool false, .int .u32 0, .int .u32 0] 41) ∧ w.heap.size + 2 ≤ g)
      have f15 := (fun h => (by obtain ⟨g, e, z, le⟩ := f15 h; exact ⟨g, e, hp1 z hnq, le⟩) : b15 = true → ∃ g : Nat, x8 = .pointer (some ⟨g, 0, none⟩) ∧ WW.heap[g]? = some (.cells #[.int .u8 0, .bool false] 44) ∧ w.heap.size + 2 ≤ g)
      exact HK.out _ _ ⟨hnw, true, b5, b8, b11, b12, b13, b14, b15, _, x42, x45, x48, x5, x6, x7, x8, (by simp at hcnt ⊢; omega), rfl, rfl, hnw, (fun _ => rfl), c8, c11, (fun _ => ⟨u1, u2, rfl, hr1, hr2⟩), f5, f8, f11, f12, f13, f14, f15⟩
    | 3, _, hl, _ => exact absurd hl (by simp)
    | 4, _, hl, _ => exact absurd hl (by simp)
    | 5, _, hl, hd =>
      refine wpOp_step (o := { dst := some 42, op := Op.call { callee := Callee.value (Operand.func 6), args := #[Operand.tmp 41], argTypes := #[26] }, type := 37, pos := "law.go:96", after := #[{ on := 4, ground := Ground.data }, { on := 2, ground := Ground.chain }], guard := none }) rfl (fun K hK => ?_)
      have HK := hid hK
      clear hK
      have hb : b5 = false := hl
      subst hb
      have HCN := hid hcnt
      have HD := hid hd
      have C5 := hid c5
      have C8 := hid c8
      have C11 := hid c11
      have F2 := hid f2
      have F5 := hid f5
      have F8 := hid f8
      have F11 := hid f11
      have F12 := hid f12
      have F13 := hid f13
      have F14 := hid f14
      have F15 := hid f15
      have HTT := hid htw
      clear hcnt hd c5 c8 c11 htw f2 f5 f8 f11 f12 f13 f14 f15 hl hi
      go_simp
      refine (HL.out W).mono ?_
      rintro e WW ⟨rfl, hnq⟩
      go_wp2_with fail
      have hnw := HTT.out.new hnq
      have hcnt := HCN.out
      have hd := HD.out
      have c5 := C5.out
      have c8 := C8.out
      have c11 := C11.out
      have f2 := F2.out
      have f5 := F5.out
      have f8 := F8.out
      have f11 := F11.out
      have f12 := F12.out
      have f13 := F13.out
      have f14 := F14.out
      have f15 := F15.out
      have f2 := (fun h => (by obtain ⟨u1, u2, e, r1, r2⟩ := f2 h; exact ⟨u1, u2, e, r1.new hnq, r2.new hnq⟩) : b2 = true → ∃ u1 u2 : Value, x39 = .agg #[u1, u2] ∧ VBytes WW u1 (lb p) ∧ VBytes WW u2 (lb r))
      have f12 := (fun h => (by obtain ⟨g, e, z, le⟩ := f12 h; exact ⟨g, e, hp1 z hnq, le⟩) : b12 = true → ∃ g : Nat, x5 = .pointer (some ⟨g, 0, none⟩) ∧ WW.heap[g]? = some (.cells #[.slice none 0 0, .slice none 0 0] 35) ∧ w.heap.size + 2 ≤ g)
      have f13 := (fun h => (by obtain ⟨g, e, z, le⟩ := f13 h; exact ⟨g, e, hp1 z hnq, le⟩) : b13 = true → ∃ g : Nat, x6 = .pointer (some ⟨g, 0, none⟩) ∧ WW.heap[g]? = some (.cells #[.bool false, .int .u32 0, .int .u32 0] 37) ∧ w.heap.size + 2 ≤ g)
      have f14 := (fun h => (by obtain ⟨g, e, z, le⟩ := f14 h; exact ⟨g, e, hp1 z hnq, le⟩) : b14 = true → ∃ g : Nat, x7 = .pointer (some ⟨g, 0, none⟩) ∧ WW.heap[g]? = some (.cells #[.int .u8 0, .bool false, .int .u32 0, .int .u32 0] 41) ∧ w.heap.size + 2 ≤ g)
      have f15 := (fun h => (by obtain ⟨g, e, z, le⟩ := f15 h; exact ⟨g, e, hp1 z hnq, le⟩) : b15 = true → ∃ g : Nat, x8 = .pointer (some ⟨g, 0, none⟩) ∧ WW.heap[g]? = some (.cells #[.int .u8 0, .bool false] 44) ∧ w.heap.size + 2 ≤ g)
      exact HK.out _ _ ⟨hnw, b2, true, b8, b11, b12, b13, b14, b15, x39, _, x45, x48, x5, x6, x7, x8, (by simp at hcnt ⊢; omega), rfl, rfl, hnw, (fun _ => hd 2 (by kernel_rfl)), (fun _ => rfl), c11, f2, (fun _ => rfl), f8, f11, f12, f13, f14, f15⟩
    | 6, _, hl, _ => exact absurd hl (by simp)
    | 7, _, hl, _ => exact absurd hl (by simp)
    | 8, _, hl, hd =>
      refine wpOp_step (o := { dst := some 45, op := Op.call { callee := Callee.value (Operand.func 7), args := #[Operand.tmp 44], argTypes := #[28] }, type := 41, pos := "law.go:96", after := #[{ on := 7, ground := Ground.data }, { on := 5, ground := Ground.chain }], guard := none }) rfl (fun K hK => ?_)
      have HK := hid hK
      clear hK
      have hb : b8 = false := hl
      subst hb
      have HCN := hid hcnt
      have HD := hid hd
      have C5 := hid c5
      have C8 := hid c8
      have C11 := hid c11
      have F2 := hid f2
      have F5 := hid f5
      have F8 := hid f8
      have F11 := hid f11
      have F12 := hid f12
      have F13 := hid f13
      have F14 := hid f14
      have F15 := hid f15
      have HTT := hid htw
      clear hcnt hd c5 c8 c11 htw f2 f5 f8 f11 f12 f13 f14 f15 hl hi
      go_simp
      refine (HT.out W).mono ?_
      rintro e WW ⟨rfl, hnq⟩
      go_wp2_with fail
      have hnw := HTT.out.new hnq
      have hcnt := HCN.out
      have hd := HD.out
      have c5 := C5.out
      have c8 := C8.out
      have c11 := C11.out
      have f2 := F2.out
      have f5 := F5.out
      have f8 := F8.out
      have f11 := F11.out
      have f12 := F12.out
      have f13 := F13.out
      have f14 := F14.out
      have f15 := F15.out
      have f2 := (fun h => (by obtain ⟨u1, u2, e, r1, r2⟩ := f2 h; exact ⟨u1, u2, e, r1.new hnq, r2.new hnq⟩) : b2 = true → ∃ u1 u2 : Value, x39 = .agg #[u1, u2] ∧ VBytes WW u1 (lb p) ∧ VBytes WW u2 (lb r))
      have f12 := (fun h => (by obtain ⟨g, e, z, le⟩ := f12 h; exact ⟨g, e, hp1 z hnq, le⟩) : b12 = true → ∃ g : Nat, x5 = .pointer (some ⟨g, 0, none⟩) ∧ WW.heap[g]? = some (.cells #[.slice none 0 0, .slice none 0 0] 35) ∧ w.heap.size + 2 ≤ g)
      have f13 := (fun h => (by obtain ⟨g, e, z, le⟩ := f13 h; exact ⟨g, e, hp1 z hnq, le⟩) : b13 = true → ∃ g : Nat, x6 = .pointer (some ⟨g, 0, none⟩) ∧ WW.heap[g]? = some (.cells #[.bool false, .int .u32 0, .int .u32 0] 37) ∧ w.heap.size + 2 ≤ g)
      have f14 := (fun h => (by obtain ⟨g, e, z, le⟩ := f14 h; exact ⟨g, e, hp1 z hnq, le⟩) : b14 = true → ∃ g : Nat, x7 = .pointer (some ⟨g, 0, none⟩) ∧ WW.heap[g]? = some (.cells #[.int .u8 0, .bool false, .int .u32 0, .int .u32 0] 41) ∧ w.heap.size + 2 ≤ g)
      have f15 := (fun h => (by obtain ⟨g, e, z, le⟩ := f15 h; exact ⟨g, e, hp1 z hnq, le⟩) : b15 = true → ∃ g : Nat, x8 = .pointer (some ⟨g, 0, none⟩) ∧ WW.heap[g]? = some (.cells #[.int .u8 0, .bool false] 44) ∧ w.heap.size + 2 ≤ g)
      exact HK.out _ _ ⟨hnw, b2, b5, true, b11, b12, b13, b14, b15, x39, x42, _, x48, x5, x6, x7, x8, (by simp at hcnt ⊢; omega), rfl, rfl, hnw, c5, (fun _ => hd 5 (by kernel_rfl)), (fun _ => rfl), f2, f5, (fun _ => rfl), f11, f12, f13, f14, f15⟩
    | 9, _, hl, _ => exact absurd hl (by simp)
    | 10, _, hl, _ => exact absurd hl (by simp)
    | 11, _, hl, hd =>
      refine wpOp_step (o := { dst := some 48, op := Op.call { callee := Callee.value (Operand.func 8), args := #[Operand.tmp 47], argTypes := #[30] }, type := 44, pos := "law.go:96", after := #[{ on := 10, ground := Ground.data }, { on := 8, ground := Ground.chain }], guard := none }) rfl (fun K hK => ?_)
      have HK := hid hK
      clear hK
      have hb : b11 = false := hl
      subst hb
      have HCN := hid hcnt
      have HD := hid hd
      have C5 := hid c5
      have C8 := hid c8
      have C11 := hid c11
      have F2 := hid f2
      have F5 := hid f5
      have F8 := hid f8
      have F11 := hid f11
      have F12 := hid f12
      have F13 := hid f13
      have F14 := hid f14
      have F15 := hid f15
      have HTT := hid htw
      clear hcnt hd c5 c8 c11 htw f2 f5 f8 f11 f12 f13 f14 f15 hl hi
      go_simp
      refine (HG.out W).mono ?_
      rintro e WW ⟨rfl, hnq⟩
      go_wp2_with fail
      have hnw := HTT.out.new hnq
      have hcnt := HCN.out
      have hd := HD.out
      have c5 := C5.out
      have c8 := C8.out
      have c11 := C11.out
      have f2 := F2.out
      have f5 := F5.out
      have f8 := F8.out
      have f11 := F11.out
      have f12 := F12.out
      have f13 := F13.out
      have f14 := F14.out
      have f15 := F15.out
      have f2 := (fun h => (by obtain ⟨u1, u2, e, r1, r2⟩ := f2 h; exact ⟨u1, u2, e, r1.new hnq, r2.new hnq⟩) : b2 = true → ∃ u1 u2 : Value, x39 = .agg #[u1, u2] ∧ VBytes WW u1 (lb p) ∧ VBytes WW u2 (lb r))
      have f12 := (fun h => (by obtain ⟨g, e, z, le⟩ := f12 h; exact ⟨g, e, hp1 z hnq, le⟩) : b12 = true → ∃ g : Nat, x5 = .pointer (some ⟨g, 0, none⟩) ∧ WW.heap[g]? = some (.cells #[.slice none 0 0, .slice none 0 0] 35) ∧ w.heap.size + 2 ≤ g)
      have f13 := (fun h => (by obtain ⟨g, e, z, le⟩ := f13 h; exact ⟨g, e, hp1 z hnq, le⟩) : b13 = true → ∃ g : Nat, x6 = .pointer (some ⟨g, 0, none⟩) ∧ WW.heap[g]? = some (.cells #[.bool false, .int .u32 0, .int .u32 0] 37) ∧ w.heap.size + 2 ≤ g)
      have f14 := (fun h => (by obtain ⟨g, e, z, le⟩ := f14 h; exact ⟨g, e, hp1 z hnq, le⟩) : b14 = true → ∃ g : Nat, x7 = .pointer (some ⟨g, 0, none⟩) ∧ WW.heap[g]? = some (.cells #[.int .u8 0, .bool false, .int .u32 0, .int .u32 0] 41) ∧ w.heap.size + 2 ≤ g)
      have f15 := (fun h => (by obtain ⟨g, e, z, le⟩ := f15 h; exact ⟨g, e, hp1 z hnq, le⟩) : b15 = true → ∃ g : Nat, x8 = .pointer (some ⟨g, 0, none⟩) ∧ WW.heap[g]? = some (.cells #[.int .u8 0, .bool false] 44) ∧ w.heap.size + 2 ≤ g)
      exact HK.out _ _ ⟨hnw, b2, b5, b8, true, b12, b13, b14, b15, x39, x42, x45, _, x5, x6, x7, x8, (by simp at hcnt ⊢; omega), rfl, rfl, hnw, c5, c8, (fun _ => hd 8 (by kernel_rfl)), f2, f5, f8, (fun _ => rfl), f12, f13, f14, f15⟩
    | 12, _, hl, hd =>
      refine wpOp_step (o := { dst := some 5, op := Op.alloc 35, type := 0, pos := "law.go:96", after := #[], guard := none }) rfl (fun K hK => ?_)
      have HK := hid hK
      clear hK
      have hb : b12 = false := hl
      subst hb
      have HCN := hid hcnt
      have HD := hid hd
      have C5 := hid c5
      have C8 := hid c8
      have C11 := hid c11
      have F2 := hid f2
      have F5 := hid f5
      have F8 := hid f8
      have F11 := hid f11
      have F12 := hid f12
      have F13 := hid f13
      have F14 := hid f14
      have F15 := hid f15
      have HTT := hid htw
      clear hcnt hd c5 c8 c11 htw f2 f5 f8 f11 f12 f13 f14 f15 hl hi
      go_simp
      have hnq : New W (W.alloc (.cells #[.slice none 0 0, .slice none 0 0] 35)) := (Upd.refl _ _).alloc _
      have hz : (W.alloc (.cells #[.slice none 0 0, .slice none 0 0] 35)).heap[W.heap.size]? = some (.cells #[.slice none 0 0, .slice none 0 0] 35) := hp_new rfl
      have hsz := HTT.out.2.2.2
      generalize hWW : W.alloc (.cells #[.slice none 0 0, .slice none 0 0] 35) = WW at *
      have hnw := HTT.out.new hnq
      have hcnt := HCN.out
      have hd := HD.out
      have c5 := C5.out
      have c8 := C8.out
      have c11 := C11.out
      have f2 := F2.out
      have f5 := F5.out
      have f8 := F8.out
      have f11 := F11.out
      have f12 := F12.out
      have f13 := F13.out
      have f14 := F14.out
      have f15 := F15.out
      have f2 := (fun h => (by obtain ⟨u1, u2, e, r1, r2⟩ := f2 h; exact ⟨u1, u2, e, r1.new hnq, r2.new hnq⟩) : b2 = true → ∃ u1 u2 : Value, x39 = .agg #[u1, u2] ∧ VBytes WW u1 (lb p) ∧ VBytes WW u2 (lb r))
      have f13 := (fun h => (by obtain ⟨g, e, z, le⟩ := f13 h; exact ⟨g, e, hp1 z hnq, le⟩) : b13 = true → ∃ g : Nat, x6 = .pointer (some ⟨g, 0, none⟩) ∧ WW.heap[g]? = some (.cells #[.bool false, .int .u32 0, .int .u32 0] 37) ∧ w.heap.size + 2 ≤ g)
      have f14 := (fun h => (by obtain ⟨g, e, z, le⟩ := f14 h; exact ⟨g, e, hp1 z hnq, le⟩) : b14 = true → ∃ g : Nat, x7 = .pointer (some ⟨g, 0, none⟩) ∧ WW.heap[g]? = some (.cells #[.int .u8 0, .bool false, .int .u32 0, .int .u32 0] 41) ∧ w.heap.size + 2 ≤ g)
      have f15 := (fun h => (by obtain ⟨g, e, z, le⟩ := f15 h; exact ⟨g, e, hp1 z hnq, le⟩) : b15 = true → ∃ g : Nat, x8 = .pointer (some ⟨g, 0, none⟩) ∧ WW.heap[g]? = some (.cells #[.int .u8 0, .bool false] 44) ∧ w.heap.size + 2 ≤ g)
      exact HK.out _ _ ⟨hnw, b2, b5, b8, b11, true, b13, b14, b15, x39, x42, x45, x48, _, x6, x7, x8, (by simp at hcnt ⊢; omega), rfl, rfl, hnw, c5, c8, c11, f2, f5, f8, f11, (fun _ => ⟨W.heap.size, rfl, hz, hsz⟩), f13, f14, f15⟩
    | 13, _, hl, hd =>
      refine wpOp_step (o := { dst := some 6, op := Op.alloc 37, type := 0, pos := "law.go:96", after := #[], guard := none }) rfl (fun K hK => ?_)
      have HK := hid hK
      clear hK
      have hb : b13 = false := hl
      subst hb
      have HCN := hid hcnt
      have HD := hid hd
      have C5 := hid c5
      have C8 := hid c8
      have C11 := hid c11
      have F2 := hid f2
      have F5 := hid f5
      have F8 := hid f8
      have F11 := hid f11
      have F12 := hid f12
      have F13 := hid f13
      have F14 := hid f14
      have F15 := hid f15
      have HTT := hid htw
      clear hcnt hd c5 c8 c11 htw f2 f5 f8 f11 f12 f13 f14 f15 hl hi
      go_simp
      have hnq : New W (W.alloc (.cells #[.bool false, .int .u32 0, .int .u32 0] 37)) := (Upd.refl _ _).alloc _
      have hz : (W.alloc (.cells #[.bool false, .int .u32 0, .int .u32 0] 37)).heap[W.heap.size]? = some (.cells #[.bool false, .int .u32 0, .int .u32 0] 37) := hp_new rfl
      have hsz := HTT.out.2.2.2
      generalize hWW : W.alloc (.cells #[.bool false, .int .u32 0, .int .u32 0] 37) = WW at *
      have hnw := HTT.out.new hnq
      have hcnt := HCN.out
      have hd := HD.out
      have c5 := C5.out
      have c8 := C8.out
      have c11 := C11.out
      have f2 := F2.out
      have f5 := F5.out
      have f8 := F8.out
      have f11 := F11.out
      have f12 := F12.out
      have f13 := F13.out
      have f14 := F14.out
      have f15 := F15.out
      have f2 := (fun h => (by obtain ⟨u1, u2, e, r1, r2⟩ := f2 h; exact ⟨u1, u2, e, r1.new hnq, r2.new hnq⟩) : b2 = true → ∃ u1 u2 : Value, x39 = .agg #[u1, u2] ∧ VBytes WW u1 (lb p) ∧ VBytes WW u2 (lb r))
      have f12 := (fun h => (by obtain ⟨g, e, z, le⟩ := f12 h; exact ⟨g, e, hp1 z hnq, le⟩) : b12 = true → ∃ g : Nat, x5 = .pointer (some ⟨g, 0, none⟩) ∧ WW.heap[g]? = some (.cells #[.slice none 0 0, .slice none 0 0] 35) ∧ w.heap.size + 2 ≤ g)
      have f14 := (fun h => (by obtain ⟨g, e, z, le⟩ := f14 h; exact ⟨g, e, hp1 z hnq, le⟩) : b14 = true → ∃ g : Nat, x7 = .pointer (some ⟨g, 0, none⟩) ∧ WW.heap[g]? = some (.cells #[.int .u8 0, .bool false, .int .u32 0, .int .u32 0] 41) ∧ w.heap.size + 2 ≤ g)
      have f15 := (fun h => (by obtain ⟨g, e, z, le⟩ := f15 h; exact ⟨g, e, hp1 z hnq, le⟩) : b15 = true → ∃ g : Nat, x8 = .pointer (some ⟨g, 0, none⟩) ∧ WW.heap[g]? = some (.cells #[.int .u8 0, .bool false] 44) ∧ w.heap.size + 2 ≤ g)
      exact HK.out _ _ ⟨hnw, b2, b5, b8, b11, b12, true, b14, b15, x39, x42, x45, x48, x5, _, x7, x8, (by simp at hcnt ⊢; omega), rfl, rfl, hnw, c5, c8, c11, f2, f5, f8, f11, f12, (fun _ => ⟨W.heap.size, rfl, hz, hsz⟩), f14, f15⟩
    | 14, _, hl, hd =>
      refine wpOp_step (o := { dst := some 7, op := Op.alloc 41, type := 0, pos := "law.go:96", after := #[], guard := none }) rfl (fun K hK => ?_)
      have HK := hid hK
      clear hK
      have hb : b14 = false := hl
      subst hb
      have HCN := hid hcnt
      have HD := hid hd
      have C5 := hid c5
      have C8 := hid c8
      have C11 := hid c11
      have F2 := hid f2
      have F5 := hid f5
      have F8 := hid f8
      have F11 := hid f11
      have F12 := hid f12
      have F13 := hid f13
      have F14 := hid f14
      have F15 := hid f15
      have HTT := hid htw
      clear hcnt hd c5 c8 c11 htw f2 f5 f8 f11 f12 f13 f14 f15 hl hi
      go_simp
      have hnq : New W (W.alloc (.cells #[.int .u8 0, .bool false, .int .u32 0, .int .u32 0] 41)) := (Upd.refl _ _).alloc _
      have hz : (W.alloc (.cells #[.int .u8 0, .bool false, .int .u32 0, .int .u32 0] 41)).heap[W.heap.size]? = some (.cells #[.int .u8 0, .bool false, .int .u32 0, .int .u32 0] 41) := hp_new rfl
      have hsz := HTT.out.2.2.2
      generalize hWW : W.alloc (.cells #[.int .u8 0, .bool false, .int .u32 0, .int .u32 0] 41) = WW at *
      have hnw := HTT.out.new hnq
      have hcnt := HCN.out
      have hd := HD.out
      have c5 := C5.out
      have c8 := C8.out
      have c11 := C11.out
      have f2 := F2.out
      have f5 := F5.out
      have f8 := F8.out
      have f11 := F11.out
      have f12 := F12.out
      have f13 := F13.out
      have f14 := F14.out
      have f15 := F15.out
      have f2 := (fun h => (by obtain ⟨u1, u2, e, r1, r2⟩ := f2 h; exact ⟨u1, u2, e, r1.new hnq, r2.new hnq⟩) : b2 = true → ∃ u1 u2 : Value, x39 = .agg #[u1, u2] ∧ VBytes WW u1 (lb p) ∧ VBytes WW u2 (lb r))
      have f12 := (fun h => (by obtain ⟨g, e, z, le⟩ := f12 h; exact ⟨g, e, hp1 z hnq, le⟩) : b12 = true → ∃ g : Nat, x5 = .pointer (some ⟨g, 0, none⟩) ∧ WW.heap[g]? = some (.cells #[.slice none 0 0, .slice none 0 0] 35) ∧ w.heap.size + 2 ≤ g)
      have f13 := (fun h => (by obtain ⟨g, e, z, le⟩ := f13 h; exact ⟨g, e, hp1 z hnq, le⟩) : b13 = true → ∃ g : Nat, x6 = .pointer (some ⟨g, 0, none⟩) ∧ WW.heap[g]? = some (.cells #[.bool false, .int .u32 0, .int .u32 0] 37) ∧ w.heap.size + 2 ≤ g)
      have f15 := (fun h => (by obtain ⟨g, e, z, le⟩ := f15 h; exact ⟨g, e, hp1 z hnq, le⟩) : b15 = true → ∃ g : Nat, x8 = .pointer (some ⟨g, 0, none⟩) ∧ WW.heap[g]? = some (.cells #[.int .u8 0, .bool false] 44) ∧ w.heap.size + 2 ≤ g)
      exact HK.out _ _ ⟨hnw, b2, b5, b8, b11, b12, b13, true, b15, x39, x42, x45, x48, x5, x6, _, x8, (by simp at hcnt ⊢; omega), rfl, rfl, hnw, c5, c8, c11, f2, f5, f8, f11, f12, f13, (fun _ => ⟨W.heap.size, rfl, hz, hsz⟩), f15⟩
    | 15, _, hl, hd =>
      refine wpOp_step (o := { dst := some 8, op := Op.alloc 44, type := 0, pos := "law.go:96", after := #[], guard := none }) rfl (fun K hK => ?_)
      have HK := hid hK
      clear hK
      have hb : b15 = false := hl
      subst hb
      have HCN := hid hcnt
      have HD := hid hd
      have C5 := hid c5
      have C8 := hid c8
      have C11 := hid c11
      have F2 := hid f2
      have F5 := hid f5
      have F8 := hid f8
      have F11 := hid f11
      have F12 := hid f12
      have F13 := hid f13
      have F14 := hid f14
      have F15 := hid f15
      have HTT := hid htw
      clear hcnt hd c5 c8 c11 htw f2 f5 f8 f11 f12 f13 f14 f15 hl hi
      go_simp
      have hnq : New W (W.alloc (.cells #[.int .u8 0, .bool false] 44)) := (Upd.refl _ _).alloc _
      have hz : (W.alloc (.cells #[.int .u8 0, .bool false] 44)).heap[W.heap.size]? = some (.cells #[.int .u8 0, .bool false] 44) := hp_new rfl
      have hsz := HTT.out.2.2.2
      generalize hWW : W.alloc (.cells #[.int .u8 0, .bool false] 44) = WW at *
      have hnw := HTT.out.new hnq
      have hcnt := HCN.out
      have hd := HD.out
      have c5 := C5.out
      have c8 := C8.out
      have c11 := C11.out
      have f2 := F2.out
      have f5 := F5.out
      have f8 := F8.out
      have f11 := F11.out
      have f12 := F12.out
      have f13 := F13.out
      have f14 := F14.out
      have f15 := F15.out
      have f2 := (fun h => (by obtain ⟨u1, u2, e, r1, r2⟩ := f2 h; exact ⟨u1, u2, e, r1.new hnq, r2.new hnq⟩) : b2 = true → ∃ u1 u2 : Value, x39 = .agg #[u1, u2] ∧ VBytes WW u1 (lb p) ∧ VBytes WW u2 (lb r))
      have f12 := (fun h => (by obtain ⟨g, e, z, le⟩ := f12 h; exact ⟨g, e, hp1 z hnq, le⟩) : b12 = true → ∃ g : Nat, x5 = .pointer (some ⟨g, 0, none⟩) ∧ WW.heap[g]? = some (.cells #[.slice none 0 0, .slice none 0 0] 35) ∧ w.heap.size + 2 ≤ g)
      have f13 := (fun h => (by obtain ⟨g, e, z, le⟩ := f13 h; exact ⟨g, e, hp1 z hnq, le⟩) : b13 = true → ∃ g : Nat, x6 = .pointer (some ⟨g, 0, none⟩) ∧ WW.heap[g]? = some (.cells #[.bool false, .int .u32 0, .int .u32 0] 37) ∧ w.heap.size + 2 ≤ g)
      have f14 := (fun h => (by obtain ⟨g, e, z, le⟩ := f14 h; exact ⟨g, e, hp1 z hnq, le⟩) : b14 = true → ∃ g : Nat, x7 = .pointer (some ⟨g, 0, none⟩) ∧ WW.heap[g]? = some (.cells #[.int .u8 0, .bool false, .int .u32 0, .int .u32 0] 41) ∧ w.heap.size + 2 ≤ g)
      exact HK.out _ _ ⟨hnw, b2, b5, b8, b11, b12, b13, b14, true, x39, x42, x45, x48, x5, x6, x7, _, (by simp at hcnt ⊢; omega), rfl, rfl, hnw, c5, c8, c11, f2, f5, f8, f11, f12, f13, f14, (fun _ => ⟨W.heap.size, rfl, hz, hsz⟩)⟩
    | 16, _, hl, hd =>
      have hb12 : b12 = true := hd 12 (by kernel_rfl)
      have hb13 : b13 = true := hd 13 (by kernel_rfl)
      have hb14 : b14 = true := hd 14 (by kernel_rfl)
      have hb15 : b15 = true := hd 15 (by kernel_rfl)
      have hb11 : b11 = true := hd 11 (by kernel_rfl)
      have hb8 := c11 hb11
      have hb5 := c8 hb8
      have hb2 := c5 hb5
      subst hb2 hb5 hb8 hb11 hb12 hb13 hb14 hb15
      exact absurd hcnt (by simp)
    | 17, _, hl, hd =>
      exact absurd (hd 16 (by kernel_rfl)) (by simp)
    | 18, _, hl, hd =>
      exact absurd (hd 17 (by kernel_rfl)) (by simp)
    | 19, _, hl, hd =>
      exact absurd (hd 18 (by kernel_rfl)) (by simp)
    | (k + 20), hi, _, _ => exact absurd hi (Nat.not_lt.mpr (Nat.le_add_left _ _))
  case h0_1 =>
    rintro l a W ⟨b2, b5, b8, b11, b12, b13, b14, b15, x39, x42, x45, x48, x5, x6, x7, x8, hcnt, rfl, rfl, htw, c5, c8, c11, f2, f5, f8, f11, f12, f13, f14, f15⟩
    obtain ⟨rfl, rfl, rfl, rfl, rfl, rfl, rfl, rfl⟩ := bool_all hcnt
    obtain ⟨u1, u2, rfl, hr1, hr2⟩ := f2 rfl
    obtain rfl := f5 rfl
    obtain rfl := f8 rfl
    obtain rfl := f11 rfl
    obtain ⟨g5, rfl, hz5, hg5⟩ := f12 rfl
    obtain ⟨g6, rfl, hz6, hg6⟩ := f13 rfl
    obtain ⟨g7, rfl, hz7, hg7⟩ := f14 rfl
    obtain ⟨g8, rfl, hz8, hg8⟩ := f15 rfl
    have n56 := ty_ne hz5 hz6 (by decide)
    have n57 := ty_ne hz5 hz7 (by decide)
    have n58 := ty_ne hz5 hz8 (by decide)
    have n67 := ty_ne hz6 hz7 (by decide)
    have n68 := ty_ne hz6 hz8 (by decide)
    have n78 := ty_ne hz7 hz8 (by decide)
    have m15 : ∀ k, u1.ownBlock = some k → k ≠ g5 := fun k hk => (by obtain ⟨c, hc⟩ := hr1.block k hk; exact ty_ne hc hz5 (by decide))
    have m16 : ∀ k, u1.ownBlock = some k → k ≠ g6 := fun k hk => (by obtain ⟨c, hc⟩ := hr1.block k hk; exact ty_ne hc hz6 (by decide))
    have m17 : ∀ k, u1.ownBlock = some k → k ≠ g7 := fun k hk => (by obtain ⟨c, hc⟩ := hr1.block k hk; exact ty_ne hc hz7 (by decide))
    have m18 : ∀ k, u1.ownBlock = some k → k ≠ g8 := fun k hk => (by obtain ⟨c, hc⟩ := hr1.block k hk; exact ty_ne hc hz8 (by decide))
    have m25 : ∀ k, u2.ownBlock = some k → k ≠ g5 := fun k hk => (by obtain ⟨c, hc⟩ := hr2.block k hk; exact ty_ne hc hz5 (by decide))
    have m26 : ∀ k, u2.ownBlock = some k → k ≠ g6 := fun k hk => (by obtain ⟨c, hc⟩ := hr2.block k hk; exact ty_ne hc hz6 (by decide))
    have m27 : ∀ k, u2.ownBlock = some k → k ≠ g7 := fun k hk => (by obtain ⟨c, hc⟩ := hr2.block k hk; exact ty_ne hc hz7 (by decide))
    have m28 : ∀ k, u2.ownBlock = some k → k ≠ g8 := fun k hk => (by obtain ⟨c, hc⟩ := hr2.block k hk; exact ty_ne hc hz8 (by decide))
    obtain ⟨y1, q1, k1, rfl⟩ : ∃ a n c, u1 = .slice a n c := (by obtain ⟨a, c, e⟩ := hr1.rd.shape; exact ⟨a, _, c, e⟩)
    obtain ⟨y2, q2, k2, rfl⟩ : ∃ a n c, u2 = .slice a n c := (by obtain ⟨a, c, e⟩ := hr2.rd.shape; exact ⟨a, _, c, e⟩)
    have hn := htw
    clear htw f2 f5 f8 f11 f12 f13 f14 f15 c5 c8 c11 hcnt
    refine wpAnyH_ready (rs := [16]) (by kernel_rfl) (by simp) ?_
    refine AllReadyH.cons (o := { dst := none, op := Op.store 35 (Operand.tmp 5) (Operand.tmp 39), type := 0, pos := "law.go:96", after := #[{ on := 12, ground := Ground.data }, { on := 2, ground := Ground.data }, { on := 11, ground := Ground.chain }, { on := 0, ground := Ground.phase }, { on := 1, ground := Ground.phase }, { on := 2, ground := Ground.phase }, { on := 3, ground := Ground.textOnly Departure.lateStores }, { on := 4, ground := Ground.textOnly Departure.lateStores }, { on := 5, ground := Ground.textOnly Departure.lateStoresUnsure }, { on := 6, ground := Ground.textOnly Departure.lateStores }, { on := 7, ground := Ground.textOnly Departure.lateStores }, { on := 8, ground := Ground.textOnly Departure.lateStoresUnsure }, { on := 9, ground := Ground.textOnly Departure.lateStores }, { on := 10, ground := Ground.textOnly Departure.lateStores }, { on := 11, ground := Ground.textOnly Departure.lateStoresUnsure }, { on := 12, ground := Ground.phase }, { on := 13, ground := Ground.phase }, { on := 14, ground := Ground.phase }, { on := 15, ground := Ground.phase }], guard := none }) rfl (fun K hK => ?_) AllReadyH.nil
    refine step_storeT 35 _ _ rfl rfl g5 #[.slice y1 q1 k1, .slice y2 q2 k2] rfl rfl 35 _ hz5 infoFn2 rfl (by simp [Value.oneCell']) ?_
    obtain ⟨hus, hbs⟩ := run_setRowT (cs := #[.slice y1 q1 k1, .slice y2 q2 k2]) hz5
    have hz6 := hpS hz6 hus (by first | exact n56 | exact Ne.symm n56)
    have hz7 := hpS hz7 hus (by first | exact n57 | exact Ne.symm n57)
    have hz8 := hpS hz8 hus (by first | exact n58 | exact Ne.symm n58)
    have hz5 := hbs
    have hr1 := hr1.upd hus m15
    have hr2 := hr2.upd hus m25
    have hn := hn.set hus hg5
    clear hus hbs
    refine hK.out _ _ (by first | exact hn | exact Upd.alloc hn _) (fun hn => ?_)
    clear hK K
    try simp only [Act.put, List.setIfInBounds_toArray, List.set_cons_zero, List.set_cons_succ]
    refine wpAnyH_ready (rs := [17]) (by kernel_rfl) (by simp) ?_
    refine AllReadyH.cons (o := { dst := none, op := Op.store 37 (Operand.tmp 6) (Operand.tmp 42), type := 0, pos := "law.go:96", after := #[{ on := 13, ground := Ground.data }, { on := 5, ground := Ground.data }, { on := 16, ground := Ground.chain }, { on := 0, ground := Ground.phase }, { on := 1, ground := Ground.phase }, { on := 2, ground := Ground.phase }, { on := 3, ground := Ground.phase }, { on := 4, ground := Ground.phase }, { on := 5, ground := Ground.phase }, { on := 6, ground := Ground.textOnly Departure.lateStores }, { on := 7, ground := Ground.textOnly Departure.lateStores }, { on := 8, ground := Ground.textOnly Departure.lateStoresUnsure }, { on := 9, ground := Ground.textOnly Departure.lateStores }, { on := 10, ground := Ground.textOnly Departure.lateStores }, { on := 11, ground := Ground.textOnly Departure.lateStoresUnsure }, { on := 12, ground := Ground.phase }, { on := 13, ground := Ground.phase }, { on := 14, ground := Ground.phase }, { on := 15, ground := Ground.phase }, { on := 16, ground := Ground.phase }], guard := none }) rfl (fun K hK => ?_) AllReadyH.nil
    refine step_storeT 37 _ _ rfl rfl g6 #[.bool lh, .int .u32 lmn, .int .u32 lmx] rfl rfl 37 _ hz6 infoLm3 rfl (by simp [Value.oneCell']) ?_
    obtain ⟨hus, hbs⟩ := run_setRowT (cs := #[.bool lh, .int .u32 lmn, .int .u32 lmx]) hz6
    have hz5 := hpS hz5 hus (by first | exact n56 | exact Ne.symm n56)
    have hz7 := hpS hz7 hus (by first | exact n67 | exact Ne.symm n67)
    have hz8 := hpS hz8 hus (by first | exact n68 | exact Ne.symm n68)
    have hz6 := hbs
    have hr1 := hr1.upd hus m16
    have hr2 := hr2.upd hus m26
    have hn := hn.set hus hg6
    clear hus hbs
    refine hK.out _ _ (by first | exact hn | exact Upd.alloc hn _) (fun hn => ?_)
    clear hK K
    try simp only [Act.put, List.setIfInBounds_toArray, List.set_cons_zero, List.set_cons_succ]
    refine wpAnyH_ready (rs := [18]) (by kernel_rfl) (by simp) ?_
    refine AllReadyH.cons (o := { dst := none, op := Op.store 41 (Operand.tmp 7) (Operand.tmp 45), type := 0, pos := "law.go:96", after := #[{ on := 14, ground := Ground.data }, { on := 8, ground := Ground.data }, { on := 17, ground := Ground.chain }, { on := 0, ground := Ground.phase }, { on := 1, ground := Ground.phase }, { on := 2, ground := Ground.phase }, { on := 3, ground := Ground.phase }, { on := 4, ground := Ground.phase }, { on := 5, ground := Ground.phase }, { on := 6, ground := Ground.phase }, { on := 7, ground := Ground.phase }, { on := 8, ground := Ground.phase }, { on := 9, ground := Ground.textOnly Departure.lateStores }, { on := 10, ground := Ground.textOnly Departure.lateStores }, { on := 11, ground := Ground.textOnly Departure.lateStoresUnsure }, { on := 12, ground := Ground.phase }, { on := 13, ground := Ground.phase }, { on := 14, ground := Ground.phase }, { on := 15, ground := Ground.phase }, { on := 16, ground := Ground.phase }, { on := 17, ground := Ground.phase }], guard := none }) rfl (fun K hK => ?_) AllReadyH.nil
    refine step_storeT 41 _ _ rfl rfl g7 #[.int .u8 te, .bool th, .int .u32 tmn, .int .u32 tmx] rfl rfl 41 _ hz7 infoTb4 rfl (by simp [Value.oneCell']) ?_
    obtain ⟨hus, hbs⟩ := run_setRowT (cs := #[.int .u8 te, .bool th, .int .u32 tmn, .int .u32 tmx]) hz7
    have hz5 := hpS hz5 hus (by first | exact n57 | exact Ne.symm n57)
    have hz6 := hpS hz6 hus (by first | exact n67 | exact Ne.symm n67)
    have hz8 := hpS hz8 hus (by first | exact n78 | exact Ne.symm n78)
    have hz7 := hbs
    have hr1 := hr1.upd hus m17
    have hr2 := hr2.upd hus m27
    have hn := hn.set hus hg7
    clear hus hbs
    refine hK.out _ _ (by first | exact hn | exact Upd.alloc hn _) (fun hn => ?_)
    clear hK K
    try simp only [Act.put, List.setIfInBounds_toArray, List.set_cons_zero, List.set_cons_succ]
    refine wpAnyH_ready (rs := [19]) (by kernel_rfl) (by simp) ?_
    refine AllReadyH.cons (o := { dst := none, op := Op.store 44 (Operand.tmp 8) (Operand.tmp 48), type := 0, pos := "law.go:96", after := #[{ on := 15, ground := Ground.data }, { on := 11, ground := Ground.data }, { on := 18, ground := Ground.chain }, { on := 0, ground := Ground.phase }, { on := 1, ground := Ground.phase }, { on := 2, ground := Ground.phase }, { on := 3, ground := Ground.phase }, { on := 4, ground := Ground.phase }, { on := 5, ground := Ground.phase }, { on := 6, ground := Ground.phase }, { on := 7, ground := Ground.phase }, { on := 8, ground := Ground.phase }, { on := 9, ground := Ground.phase }, { on := 10, ground := Ground.phase }, { on := 11, ground := Ground.phase }, { on := 12, ground := Ground.phase }, { on := 13, ground := Ground.phase }, { on := 14, ground := Ground.phase }, { on := 15, ground := Ground.phase }, { on := 16, ground := Ground.phase }, { on := 17, ground := Ground.phase }, { on := 18, ground := Ground.phase }], guard := none }) rfl (fun K hK => ?_) AllReadyH.nil
    refine step_storeT 44 _ _ rfl rfl g8 #[.int .u8 gt, .bool gm] rfl rfl 44 _ hz8 infoGt2 rfl (by simp [Value.oneCell']) ?_
    obtain ⟨hus, hbs⟩ := run_setRowT (cs := #[.int .u8 gt, .bool gm]) hz8
    have hz5 := hpS hz5 hus (by first | exact n58 | exact Ne.symm n58)
    have hz6 := hpS hz6 hus (by first | exact n68 | exact Ne.symm n68)
    have hz7 := hpS hz7 hus (by first | exact n78 | exact Ne.symm n78)
    have hz8 := hbs
    have hr1 := hr1.upd hus m18
    have hr2 := hr2.upd hus m28
    have hn := hn.set hus hg8
    clear hus hbs
    refine hK.out _ _ (by first | exact hn | exact Upd.alloc hn _) (fun hn => ?_)
    clear hK K
    try simp only [Act.put, List.setIfInBounds_toArray, List.set_cons_zero, List.set_cons_succ]
    refine wpAnyH_done (by kernel_rfl) ?_ _
    refine NoPanic.normal ?_
    refine HK.out _ _ _ _ _ _ _ _ _ _ _ _ _ _ g5 g6 g7 g8 _ ⟨hn, hz5, hz6, hz7, hz8, hr1, hr2⟩
end Go.Proofs.Ytjagimlmclejeaa

namespace Go.Proofs.Ytjagimlmclejeaa
open Go.RowKit Go.Proofs.Leb Go.Proofs.Own
set_option maxRecDepth 100000
set_option maxHeartbeats 8000000


theorem Bytes.ty {w : World} {v : Value} {bs : List UInt8} (h : Bytes w v bs) (k : Nat) (hk : v.ownBlock = some k) : ∃ cur, w.heap[k]? = some (.cells cur 5) := by
  obtain ⟨-, h2⟩ := h
  rcases h2 with ⟨rfl, -⟩ | ⟨g, cap, cur, rfl, _, hg, -⟩
  · cases hk
  · have : g = k := Option.some.inj hk
    subst this
    exact ⟨cur, hg⟩
theorem Bytes.lit1 (w : World) (n : Nat) (hn : n < 256) : Bytes (w.alloc (.cells #[.int .u8 (n : Nat)] 5)) (.slice (some ⟨w.heap.size, 0, none⟩) 1 1) [UInt8.ofNat n] := by
  refine ⟨rfl, .inr ⟨w.heap.size, 1, #[.int .u8 (n : Nat)], rfl, Nat.zero_le _, hp_new rfl, Nat.le_refl _, by decide, rfl, ?_⟩⟩
  simp only [List.map_cons, List.map_nil, cb_of _ hn]
  rfl
theorem W4.adds {w : World} {cx co : Array Value} {p r : List UInt8} {l t g : Array Value} {g5 g6 g7 g8 : Nat} {u1 u2 v v' : Value} {a b : World} (h : W4 w cx co p r l t g g5 g6 g7 g8 u1 u2 a) (ha : Adds a b v v')
    (hv : ∀ k, v.ownBlock = some k → w.heap.size ≤ k ∧ ∃ c, a.heap[k]? = some (.cells c 5)) : W4 w cx co p r l t g g5 g6 g7 g8 u1 u2 b := by
  have hu := ha.upd
  have keep : ∀ {k : Nat} {c : Array Value} {T : TypeId}, a.heap[k]? = some (.cells c T) → T ≠ 5 → b.heap[k]? = some (.cells c T) := fun {k c T} hk hT =>
    (hu.block k (Array.getElem?_eq_some_iff.1 hk).1 (fun e => by
      obtain ⟨-, d, hd⟩ := hv k e
      exact ty_ne hk hd hT rfl)).trans hk
  exact ⟨⟨Upd.trans h.tw.1 hu (fun i hi e => by have := (hv i e).1; omega), keep h.tw.2.1 (by decide), keep h.tw.2.2.1 (by decide), Nat.le_trans h.tw.2.2.2 hu.size⟩, keep h.b5 (by decide), keep h.b6 (by decide), keep h.b7 (by decide), keep h.b8 (by decide),
    h.r1.upd hu (fun k hk e => by obtain ⟨c, hc⟩ := h.r1.block k hk; obtain ⟨-, d, hd⟩ := hv k e; exact ty_ne hc hd (by decide) rfl), h.r2.upd hu (fun k hk e => by obtain ⟨c, hc⟩ := h.r2.block k hk; obtain ⟨-, d, hd⟩ := hv k e; exact ty_ne hc hd (by decide) rfl)⟩
theorem apart_ty {w : World} {v u : Value} {bs l : List UInt8} (h : Bytes w v bs) (k : VBytes w u l) : Apart v u := fun i hi hj => by
  obtain ⟨c, hc⟩ := h.ty i hi
  obtain ⟨d, hd⟩ := k.block i hj
  exact ty_ne hc hd (by decide) rfl

noncomputable def wl9code : Code := (Try.f3.body.bind (findRegion 9)).getD .skip
theorem wl9_any {K : Act → World → Prop} {Q : Exit → Act → World → Prop} (w W0 : World) (V e gt : UInt8) (p r p' r' : ByteArray) (lh th gm : Bool) (lmn lmx tmn tmx : Nat) (g5 g6 g7 g8 : Nat) (y1 y2 : Option Addr) (k1 k2 : Nat) (fn li : Bool) (ga : Nat)
    (h0 : W4 w #[.int .u8 V.toNat, .string p, .string r, .bool lh, .int .u32 (lmn : Nat), .int .u32 (lmx : Nat), .int .u8 e.toNat, .bool th, .int .u32 (tmn : Nat), .int .u32 (tmx : Nat), .int .u8 gt.toNat, .bool gm] #[.string p', .string r'] (lb p) (lb r) #[.bool lh, .int .u32 (lmn : Nat), .int .u32 (lmx : Nat)] #[.int .u8 e.toNat, .bool th, .int .u32 (tmn : Nat), .int .u32 (tmx : Nat)] #[.int .u8 gt.toNat, .bool gm] g5 g6 g7 g8 (.slice y1 (lb p).length k1) (.slice y2 (lb r).length k2) W0) (hb0 : Bytes W0 (.slice (some ⟨ga, 0, none⟩) 1 1) [9]) (hga : w.heap.size + 2 ≤ ga) (s1 : p.size ≤ 300) (s2 : r.size ≤ 300) (i1 : lmn < 4294967296) (i2 : lmx < 4294967296) (t0 t1 t4 t11 t13 t14 t15 t16 t17 t18 t19 t20 t21 t22 t23 t24 t25 t26 t27 t28 t29 t30 t31 t32 t33 t34 t35 t36 t37 t38 t39 t40 t41 t42 t43 t44 t45 t46 t47 t48 t49 t50 t51 t52 t53 t54 t55 t56 t57 t58 t59 t60 t61 t62 t63 t64 t65 t66 t67 t68 t69 t70 t71 t72 t73 t74 t75 t76 t77 t78 t79 t80 t81 t82 t83 t84 t85 t86 t87 t88 t89 t90 t91 t92 t93 t94 t95 t96 t97 t98 t99 t100 t101 t102 t103 t104 t105 t106 t107 t108 t109 t110 t111 t112 t113 t114 t115 t116 t117 t118 t119 t120 t121 t122 t123 t124 t125 t126 t127 t128 t129 t130 t131 t132 t133 t134 t135 t136 t137 t138 t139 t140 t141 t142 t143 t144 t145 t146 t147 t148 t149 t150 t151 t152 t153 t154 t155 t156 t157 t158 t159 t160 t161 t162 t163 t164 t165 t166 t167 t168 t169 t170 t171 t172 t173 t174 t175 t176 t177 t178 t179 t180 t181 t182 t183 t184 t185 t186 t187 t188 t189 t190 t191 t192 t193 t194 t195 t196 t197 t198 t199 t200 t201 t202 t203 t204 : Value)
    (hK : ∀ (v140 v141 v142 v143 v144 v145 v146 v147 v148 v149 v150 v151 v152 v153 v154 v155 v156 v157 v158 v159 v160 v161 v162 v163 v164 v165 v166 v167 v168 v169 v170 v171 v172 v173 : Value)  (W2 : World), W4 w #[.int .u8 V.toNat, .string p, .string r, .bool lh, .int .u32 (lmn : Nat), .int .u32 (lmx : Nat), .int .u8 e.toNat, .bool th, .int .u32 (tmn : Nat), .int .u32 (tmx : Nat), .int .u8 gt.toNat, .bool gm] #[.string p', .string r'] (lb p) (lb r) #[.bool lh, .int .u32 (lmn : Nat), .int .u32 (lmx : Nat)] #[.int .u8 e.toNat, .bool th, .int .u32 (tmn : Nat), .int .u32 (tmx : Nat)] #[.int .u8 gt.toNat, .bool gm] g5 g6 g7 g8 (.slice y1 (lb p).length k1) (.slice y2 (lb r).length k2) W2 → K ⟨#[t0, t1, .pointer (some ⟨w.heap.size, 0, none⟩), .pointer (some ⟨w.heap.size + 1, 0, none⟩), t4, .pointer (some ⟨g5, 0, none⟩), .pointer (some ⟨g6, 0, none⟩), .pointer (some ⟨g7, 0, none⟩), .pointer (some ⟨g8, 0, none⟩), .bool fn, .bool li, t11, .slice (some ⟨ga, 0, none⟩) 1 1, t13, t14, t15, t16, t17, t18, t19, t20, t21, t22, t23, t24, t25, t26, t27, t28, t29, t30, t31, t32, t33, t34, t35, t36, t37, t38, t39, t40, t41, t42, t43, t44, t45, t46, t47, t48, t49, t50, t51, t52, t53, t54, t55, t56, t57, t58, t59, t60, t61, t62, t63, t64, t65, t66, t67, t68, t69, t70, t71, t72, t73, t74, t75, t76, t77, t78, t79, t80, t81, t82, t83, t84, t85, t86, t87, t88, t89, t90, t91, t92, t93, t94, t95, t96, t97, t98, t99, t100, t101, t102, t103, t104, t105, t106, t107, t108, t109, t110, t111, t112, t113, t114, t115, t116, t117, t118, t119, t120, t121, t122, t123, t124, t125, t126, t127, t128, t129, t130, t131, t132, t133, t134, t135, t136, t137, t138, t139, v140, v141, v142, v143, v144, v145, v146, v147, v148, v149, v150, v151, v152, v153, v154, v155, v156, v157, v158, v159, v160, v161, v162, v163, v164, v165, v166, v167, v168, v169, v170, v171, v172, v173, .bool false, t175, t176, t177, t178, t179, t180, t181, t182, t183, t184, t185, t186, t187, t188, t189, t190, t191, t192, t193, t194, t195, t196, t197, t198, t199, t200, t201, t202, t203, t204], []⟩ W2) :
    Code.wp Try.prog wl9code (Exit.then K Q) ⟨#[t0, t1, .pointer (some ⟨w.heap.size, 0, none⟩), .pointer (some ⟨w.heap.size + 1, 0, none⟩), t4, .pointer (some ⟨g5, 0, none⟩), .pointer (some ⟨g6, 0, none⟩), .pointer (some ⟨g7, 0, none⟩), .pointer (some ⟨g8, 0, none⟩), .bool fn, .bool li, t11, .slice (some ⟨ga, 0, none⟩) 1 1, t13, t14, t15, t16, t17, t18, t19, t20, t21, t22, t23, t24, t25, t26, t27, t28, t29, t30, t31, t32, t33, t34, t35, t36, t37, t38, t39, t40, t41, t42, t43, t44, t45, t46, t47, t48, t49, t50, t51, t52, t53, t54, t55, t56, t57, t58, t59, t60, t61, t62, t63, t64, t65, t66, t67, t68, t69, t70, t71, t72, t73, t74, t75, t76, t77, t78, t79, t80, t81, t82, t83, t84, t85, t86, t87, t88, t89, t90, t91, t92, t93, t94, t95, t96, t97, t98, t99, t100, t101, t102, t103, t104, t105, t106, t107, t108, t109, t110, t111, t112, t113, t114, t115, t116, t117, t118, t119, t120, t121, t122, t123, t124, t125, t126, t127, t128, t129, t130, t131, t132, t133, t134, t135, t136, t137, t138, t139, t140, t141, t142, t143, t144, t145, t146, t147, t148, t149, t150, t151, t152, t153, t154, t155, t156, t157, t158, t159, t160, t161, t162, t163, t164, t165, t166, t167, t168, t169, t170, t171, t172, t173, t174, t175, t176, t177, t178, t179, t180, t181, t182, t183, t184, t185, t186, t187, t188, t189, t190, t191, t192, t193, t194, t195, t196, t197, t198, t199, t200, t201, t202, t203, t204], []⟩ W0 := by
  have HK := hid hK
  clear hK
  have l1 := lb_len p
  have l2 := lb_len r
  have e0 := numV_zero (v := p.size) (by omega)
  obtain ⟨B4, hB4⟩ : ∃ B, fnB (lb p) (lb r) 0 = B := ⟨_, rfl⟩
  obtain ⟨B5, hB5⟩ : ∃ B, encU (lb p).length 0 ++ lb p = B := ⟨_, rfl⟩
  obtain ⟨B6, hB6⟩ : ∃ B, lmB lh lmn lmx 0 = B := ⟨_, rfl⟩
  obtain ⟨C4, hC4⟩ : ∃ C, [9] ++ B4 = C := ⟨_, rfl⟩
  have HJ1 : Hid ((⟨#[9]⟩ : ByteArray) ++ ⟨B4.toArray⟩ = ⟨C4.toArray⟩) := by show _ = _; rw [← hC4]; exact st_cat [9] B4
  have HP4 : Hid (∀ W, Bytes W (.slice (some ⟨ga, 0, none⟩) 1 1) [9] → W4 w #[.int .u8 V.toNat, .string p, .string r, .bool lh, .int .u32 (lmn : Nat), .int .u32 (lmx : Nat), .int .u8 e.toNat, .bool th, .int .u32 (tmn : Nat), .int .u32 (tmx : Nat), .int .u8 gt.toNat, .bool gm] #[.string p', .string r'] (lb p) (lb r) #[.bool lh, .int .u32 (lmn : Nat), .int .u32 (lmx : Nat)] #[.int .u8 e.toNat, .bool th, .int .u32 (tmn : Nat), .int .u32 (tmx : Nat)] #[.int .u8 gt.toNat, .bool gm] g5 g6 g7 g8 (.slice y1 (lb p).length k1) (.slice y2 (lb r).length k2) W → Calls Try.prog 19 #[.agg #[.slice y1 (lb p).length k1, .slice y2 (lb r).length k2], .slice (some ⟨ga, 0, none⟩) 1 1] W (Post W (.slice (some ⟨ga, 0, none⟩) 1 1) C4)) := fun W hb h => by
    have := fnPut_any (.slice y1 (lb p).length k1) (.slice y2 (lb r).length k2) (lb p) (lb r) _ [9] W hb (by simp) h.r1.rd h.r2.rd (apart_ty hb h.r1) (apart_ty hb h.r2) h.r1.lt h.r2.lt (by omega) (by omega)
    rw [hB4, hC4] at this
    exact this
  have HR4 := hid (fun W => fnPutR_any p r 0 W (by omega) (by omega) (by decide))
  rw [hB4] at HR4
  have HP5 : Hid (∀ W, W4 w #[.int .u8 V.toNat, .string p, .string r, .bool lh, .int .u32 (lmn : Nat), .int .u32 (lmx : Nat), .int .u8 e.toNat, .bool th, .int .u32 (tmn : Nat), .int .u32 (tmx : Nat), .int .u8 gt.toNat, .bool gm] #[.string p', .string r'] (lb p) (lb r) #[.bool lh, .int .u32 (lmn : Nat), .int .u32 (lmx : Nat)] #[.int .u8 e.toNat, .bool th, .int .u32 (tmn : Nat), .int .u32 (tmx : Nat)] #[.int .u8 gt.toNat, .bool gm] g5 g6 g7 g8 (.slice y1 (lb p).length k1) (.slice y2 (lb r).length k2) W → Calls Try.prog 21 #[.slice none 0 0, .slice y1 (lb p).length k1] W (Post W (.slice none 0 0) B5)) := fun W h => by
    have := putVals_any (.slice none 0 0) (.slice y1 (lb p).length k1) [] (lb p) W (Bytes.nil W) h.r1.rd (fun k hk => by cases hk) (by simp) (by omega)
    rw [List.nil_append, hB5] at this
    exact this
  have HR5 := hid (fun W => putVals_ref p 0 W (by omega) (by decide))
  rw [e0, ← l1, hB5] at HR5
  have HP6 := hid (fun W => lmPut_any lh lmn lmx (.slice none 0 0) [] W (Bytes.nil W) (by simp) i1 i2)
  rw [List.nil_append, hB6] at HP6
  have HR6 := hid (fun W => lmPutR_any lh lmn lmx 0 W i1 i2 (by decide))
  rw [hB6] at HR6
  unfold Says at HR4 HR5 HR6
  have k4 : B4.length ≤ 1000 := by rw [← hB4]; unfold fnB; have n1 := numV_len (v := (lb p).length) (by omega) 0; have n2 := numV_len (v := (lb r).length) (by omega) 0; simp only [List.length_cons, List.length_append]; omega
  have k5 : ¬ 9223372036854775807 < 1 + B4.length := by omega
  have HZ := hid hga
  clear l1 l2 e0 hB4 hB5 hB6 hC4 k4 s1 s2
  conv => arg 2; whnf
  have HS0 := hid h0
  have HB0 := hid hb0
  clear h0 hb0
  have hn := HS0.out.new (Upd.refl (fun _ => False) W0).drew
  have hb := HB0.out.new (Upd.refl (fun _ => False) W0).drew
  cases fn with
  | true =>
    cases li with
    | true =>
      refine wp_region_noPanic ?_
      refine wp_region_held_drew (S := (W4 w #[.int .u8 V.toNat, .string p, .string r, .bool lh, .int .u32 (lmn : Nat), .int .u32 (lmx : Nat), .int .u8 e.toNat, .bool th, .int .u32 (tmn : Nat), .int .u32 (tmx : Nat), .int .u8 gt.toNat, .bool gm] #[.string p', .string r'] (lb p) (lb r) #[.bool lh, .int .u32 (lmn : Nat), .int .u32 (lmx : Nat)] #[.int .u8 e.toNat, .bool th, .int .u32 (tmn : Nat), .int .u32 (tmx : Nat)] #[.int .u8 gt.toNat, .bool gm] g5 g6 g7 g8 (.slice y1 (lb p).length k1) (.slice y2 (lb r).length k2))) (by kernel_rfl) (by first | exact hn | exact (Upd.refl _ _).drew | exact Upd.drew (by assumption)) (fun hn => ?_)
      generalize W0.drew = wd at *
      refine wpAnyH_take (i := 0) (oi := { dst := some 140, op := Op.move (Operand.tmp 9), type := 4, pos := "law.go:103", after := #[], guard := none }) (v := ?v1x1) rfl (by kernel_rfl) (by kernel_rfl) (by kernel_rfl) (fun _ _ _ h => h) (Or.inl ⟨by rfl, ?y1x1⟩) hn ?r1x1
      case y1x1 => (intro wS hS; (try go_simp); (try with_reducible rfl))
      try simp only [Act.put, List.setIfInBounds_toArray, List.set_cons_zero, List.set_cons_succ]
      refine wpAnyH_take (i := 1) (oi := { dst := some 141, op := Op.move (Operand.tmp 140), type := 4, pos := "law.go:103", after := #[{ on := 0, ground := Ground.data }], guard := none }) (v := ?v1x2) rfl (by kernel_rfl) (by kernel_rfl) (by kernel_rfl) (fun _ _ _ h => h) (Or.inl ⟨by rfl, ?y1x2⟩) hn ?r1x2
      case y1x2 => (intro wS hS; (try go_simp); (try with_reducible rfl))
      try simp only [Act.put, List.setIfInBounds_toArray, List.set_cons_zero, List.set_cons_succ]
      refine wpAnyH_take (i := 2) (oi := { dst := some 142, op := Op.load 35 (Operand.tmp 5), type := 35, pos := "law.go:103", after := #[{ on := 1, ground := Ground.guard }], guard := some (1, true) }) (v := ?v1x3) rfl (by kernel_rfl) (by kernel_rfl) (by kernel_rfl) (fun _ _ _ h => h) (Or.inl ⟨by rfl, ?y1x3⟩) hn ?r1x3
      case y1x3 => (intro wS hS; have c0 : wS.cell? ⟨g5, 0, none⟩ = some (.slice y1 (lb p).length k1) := cellAt hS.b5 0 rfl; have c1 : wS.cell? ⟨g5, 1, none⟩ = some (.slice y2 (lb r).length k2) := cellAt hS.b5 1 rfl; (try go_simp); (try with_reducible rfl))
      try simp only [Act.put, List.setIfInBounds_toArray, List.set_cons_zero, List.set_cons_succ]
      refine wpAnyH_take (i := 3) (oi := { dst := some 143, op := Op.move (Operand.tmp 12), type := 50, pos := "law.go:103", after := #[{ on := 1, ground := Ground.guard }], guard := some (1, true) }) (v := ?v1x4) rfl (by kernel_rfl) (by kernel_rfl) (by kernel_rfl) (fun _ _ _ h => h) (Or.inl ⟨by rfl, ?y1x4⟩) hn ?r1x4
      case y1x4 => (intro wS hS; (try go_simp); (try with_reducible rfl))
      try simp only [Act.put, List.setIfInBounds_toArray, List.set_cons_zero, List.set_cons_succ]
      refine wpAnyH_take (i := 6) (oi := { dst := some 146, op := Op.fieldAddr 32 (Operand.tmp 2) 1, type := 0, pos := "law.go:103", after := #[{ on := 1, ground := Ground.guard }], guard := some (1, true) }) (v := ?v1x5) rfl (by kernel_rfl) (by kernel_rfl) (by kernel_rfl) (fun _ _ _ h => h) (Or.inl ⟨by rfl, ?y1x5⟩) hn ?r1x5
      case y1x5 => (intro wS hS; (try go_simp); (try with_reducible rfl))
      try simp only [Act.put, List.setIfInBounds_toArray, List.set_cons_zero, List.set_cons_succ]
      refine wpAnyH_take (i := 7) (oi := { dst := some 147, op := Op.load 23 (Operand.tmp 146), type := 23, pos := "law.go:103", after := #[{ on := 6, ground := Ground.data }, { on := 1, ground := Ground.guard }], guard := some (1, true) }) (v := ?v1x6) rfl (by kernel_rfl) (by kernel_rfl) (by kernel_rfl) (fun _ _ _ h => h) (Or.inl ⟨by rfl, ?y1x6⟩) hn ?r1x6
      case y1x6 => (intro wS hS; have c0 := hS.tw.atx 1 rfl; have c1 := hS.tw.atx 2 rfl; (try go_simp); (try with_reducible rfl))
      try simp only [Act.put, List.setIfInBounds_toArray, List.set_cons_zero, List.set_cons_succ]
      refine wpAnyH_ready (rs := [4]) (by kernel_rfl) (by simp) ?_
      refine AllReadyH.cons (o := { dst := some 144, op := Op.call { callee := Callee.value (Operand.func 19), args := #[Operand.tmp 142, Operand.tmp 143], argTypes := #[35, 50] }, type := 50, pos := "law.go:103", after := #[{ on := 2, ground := Ground.data }, { on := 3, ground := Ground.data }, { on := 1, ground := Ground.chain }, { on := 1, ground := Ground.guard }], guard := some (1, true) }) rfl (fun K hK => ?_) AllReadyH.nil
      go_simp
      refine (HP4.out _ hb hn).mono ?_
      rintro e1 wq ⟨v4, rfl, hb4, ha4⟩
      obtain ⟨a4, m4, c4, rfl⟩ : ∃ a n c, v4 = .slice a n c := (by obtain ⟨a, c, e⟩ := hb4.rd.shape; exact ⟨a, _, c, e⟩)
      go_wp2_with fail
      have hn := hn.adds ha4 (fun k hk => ⟨by have h1 : ga = k := Option.some.inj hk; omega, hb.ty k hk⟩)
      refine hK.out _ _ (by first | exact hn | exact Upd.alloc hn _) (fun hn => ?_)
      clear hK K
      try simp only [Act.put, List.setIfInBounds_toArray, List.set_cons_zero, List.set_cons_succ]
      refine wpAnyH_ready (rs := [5, 8]) (by kernel_rfl) (by simp) ?_
      refine AllReadyH.cons (o := { dst := some 145, op := Op.convert 50 9 (Operand.tmp 144), type := 9, pos := "law.go:103", after := #[{ on := 4, ground := Ground.data }, { on := 1, ground := Ground.guard }], guard := some (1, true) }) rfl (fun K hK => ?_) ?_
      · skip
        have hs := hb4.rd.str
        go_simp
        refine hK.out _ _ (by first | exact hn | exact Upd.alloc hn _) (fun hn => ?_)
        clear hK K
        try simp only [Act.put, List.setIfInBounds_toArray, List.set_cons_zero, List.set_cons_succ]
        refine wpAnyH_ready (rs := [8]) (by kernel_rfl) (by simp) ?_
        refine AllReadyH.cons (o := { dst := some 148, op := Op.call { callee := Callee.value (Operand.func 20), args := #[Operand.tmp 147, Operand.const (Value.int IntKind.i64 0)], argTypes := #[23, 3] }, type := 9, pos := "law.go:103", after := #[{ on := 7, ground := Ground.data }, { on := 4, ground := Ground.chain }, { on := 1, ground := Ground.guard }], guard := some (1, true) }) rfl (fun K hK => ?_) AllReadyH.nil
        go_simp
        refine (HR4.out _).mono ?_
        rintro e1 wr ⟨rfl, hnq⟩
        go_wp2_with fail
        have hn := hn.new hnq
        (try have hb4 := hb4.new hnq)
        refine hK.out _ _ (by first | exact hn | exact Upd.alloc hn _) (fun hn => ?_)
        clear hK K
        try simp only [Act.put, List.setIfInBounds_toArray, List.set_cons_zero, List.set_cons_succ]
        refine wpAnyH_take (i := 9) (oi := { dst := some 149, op := Op.binOp BinOp.add 9 (Operand.const (Value.string { data := #[9] })) (Operand.tmp 148) 9, type := 9, pos := "law.go:103", after := #[{ on := 8, ground := Ground.data }, { on := 1, ground := Ground.guard }], guard := some (1, true) }) (v := ?v1x7) rfl (by kernel_rfl) (by kernel_rfl) (by kernel_rfl) (fun _ _ _ h => h) (Or.inl ⟨by rfl, ?y1x7⟩) hn ?r1x7
        case y1x7 => (intro wS hS; go_simp; rw [HJ1.out]; (try go_simp); (try with_reducible rfl))
        try simp only [Act.put, List.setIfInBounds_toArray, List.set_cons_zero, List.set_cons_succ]
        refine wpAnyH_take (i := 10) (oi := { dst := some 150, op := Op.binOp BinOp.neq 9 (Operand.tmp 145) (Operand.tmp 149) 9, type := 4, pos := "law.go:103", after := #[{ on := 5, ground := Ground.data }, { on := 9, ground := Ground.data }, { on := 1, ground := Ground.guard }], guard := some (1, true) }) (v := ?v1x8) rfl (by kernel_rfl) (by kernel_rfl) (by kernel_rfl) (fun _ _ _ h => h) (Or.inl ⟨by rfl, ?y1x8⟩) hn ?r1x8
        case y1x8 => (intro wS hS; (try go_simp); (try with_reducible rfl))
        try simp only [Act.put, List.setIfInBounds_toArray, List.set_cons_zero, List.set_cons_succ]
        refine wpAnyH_take (i := 11) (oi := { dst := some 151, op := Op.move (Operand.tmp 150), type := 4, pos := "law.go:103", after := #[{ on := 10, ground := Ground.data }, { on := 8, ground := Ground.chain }, { on := 1, ground := Ground.guard }], guard := some (1, true) }) (v := ?v1x9) rfl (by kernel_rfl) (by kernel_rfl) (by kernel_rfl) (fun _ _ _ h => h) (Or.inl ⟨by rfl, ?y1x9⟩) hn ?r1x9
        case y1x9 => (intro wS hS; (try go_simp); (try with_reducible rfl))
        try simp only [Act.put, List.setIfInBounds_toArray, List.set_cons_zero, List.set_cons_succ]
        refine wpAnyH_take (i := 12) (oi := { dst := some 152, op := Op.fieldAddr 35 (Operand.tmp 5) 0, type := 0, pos := "law.go:103", after := #[{ on := 11, ground := Ground.guard }], guard := some (11, false) }) (v := ?v1x10) rfl (by kernel_rfl) (by kernel_rfl) (by kernel_rfl) (fun _ _ _ h => h) (Or.inl ⟨by rfl, ?y1x10⟩) hn ?r1x10
        case y1x10 => (intro wS hS; (try go_simp); (try with_reducible rfl))
        try simp only [Act.put, List.setIfInBounds_toArray, List.set_cons_zero, List.set_cons_succ]
        refine wpAnyH_take (i := 13) (oi := { dst := some 153, op := Op.load 33 (Operand.tmp 152), type := 33, pos := "law.go:103", after := #[{ on := 12, ground := Ground.data }, { on := 11, ground := Ground.guard }], guard := some (11, false) }) (v := ?v1x11) rfl (by kernel_rfl) (by kernel_rfl) (by kernel_rfl) (fun _ _ _ h => h) (Or.inl ⟨by rfl, ?y1x11⟩) hn ?r1x11
        case y1x11 => (intro wS hS; have c0 : wS.cell? ⟨g5, 0, none⟩ = some (.slice y1 (lb p).length k1) := cellAt hS.b5 0 rfl; (try go_simp); (try with_reducible rfl))
        try simp only [Act.put, List.setIfInBounds_toArray, List.set_cons_zero, List.set_cons_succ]
        refine wpAnyH_take (i := 16) (oi := { dst := some 156, op := Op.fieldAddr 32 (Operand.tmp 2) 1, type := 0, pos := "law.go:103", after := #[{ on := 11, ground := Ground.guard }], guard := some (11, false) }) (v := ?v1x12) rfl (by kernel_rfl) (by kernel_rfl) (by kernel_rfl) (fun _ _ _ h => h) (Or.inl ⟨by rfl, ?y1x12⟩) hn ?r1x12
        case y1x12 => (intro wS hS; (try go_simp); (try with_reducible rfl))
        try simp only [Act.put, List.setIfInBounds_toArray, List.set_cons_zero, List.set_cons_succ]
        refine wpAnyH_take (i := 17) (oi := { dst := some 157, op := Op.fieldAddr 23 (Operand.tmp 156) 0, type := 0, pos := "law.go:103", after := #[{ on := 16, ground := Ground.data }, { on := 11, ground := Ground.guard }], guard := some (11, false) }) (v := ?v1x13) rfl (by kernel_rfl) (by kernel_rfl) (by kernel_rfl) (fun _ _ _ h => h) (Or.inl ⟨by rfl, ?y1x13⟩) hn ?r1x13
        case y1x13 => (intro wS hS; (try go_simp); (try with_reducible rfl))
        try simp only [Act.put, List.setIfInBounds_toArray, List.set_cons_zero, List.set_cons_succ]
        refine wpAnyH_take (i := 18) (oi := { dst := some 158, op := Op.load 9 (Operand.tmp 157), type := 9, pos := "law.go:103", after := #[{ on := 17, ground := Ground.data }, { on := 11, ground := Ground.guard }], guard := some (11, false) }) (v := ?v1x14) rfl (by kernel_rfl) (by kernel_rfl) (by kernel_rfl) (fun _ _ _ h => h) (Or.inl ⟨by rfl, ?y1x14⟩) hn ?r1x14
        case y1x14 => (intro wS hS; have c0 := hS.tw.atx 1 rfl; (try go_simp); (try with_reducible rfl))
        try simp only [Act.put, List.setIfInBounds_toArray, List.set_cons_zero, List.set_cons_succ]
        refine wpAnyH_ready (rs := [14]) (by kernel_rfl) (by simp) ?_
        refine AllReadyH.cons (o := { dst := some 154, op := Op.call { callee := Callee.value (Operand.func 21), args := #[Operand.const (Value.slice none 0 0), Operand.tmp 153], argTypes := #[50, 33] }, type := 50, pos := "law.go:103", after := #[{ on := 13, ground := Ground.data }, { on := 11, ground := Ground.chain }, { on := 11, ground := Ground.guard }], guard := some (11, false) }) rfl (fun K hK => ?_) AllReadyH.nil
        go_simp
        refine (HP5.out _ hn).mono ?_
        rintro e1 ws ⟨v5, rfl, hb5, ha5⟩
        obtain ⟨hnq, -⟩ := Adds.nil ha5
        obtain ⟨a5, m5, c5, rfl⟩ : ∃ a n c, v5 = .slice a n c := (by obtain ⟨a, c, e⟩ := hb5.rd.shape; exact ⟨a, _, c, e⟩)
        go_wp2_with fail
        have hn := hn.new hnq
        (try have hb4 := hb4.new hnq)
        refine hK.out _ _ (by first | exact hn | exact Upd.alloc hn _) (fun hn => ?_)
        clear hK K
        try simp only [Act.put, List.setIfInBounds_toArray, List.set_cons_zero, List.set_cons_succ]
        refine wpAnyH_ready (rs := [15, 19]) (by kernel_rfl) (by simp) ?_
        refine AllReadyH.cons (o := { dst := some 155, op := Op.convert 50 9 (Operand.tmp 154), type := 9, pos := "law.go:103", after := #[{ on := 14, ground := Ground.data }, { on := 11, ground := Ground.guard }], guard := some (11, false) }) rfl (fun K hK => ?_) ?_
        · skip
          have hs := hb5.rd.str
          go_simp
          refine hK.out _ _ (by first | exact hn | exact Upd.alloc hn _) (fun hn => ?_)
          clear hK K
          try simp only [Act.put, List.setIfInBounds_toArray, List.set_cons_zero, List.set_cons_succ]
          refine wpAnyH_ready (rs := [19]) (by kernel_rfl) (by simp) ?_
          refine AllReadyH.cons (o := { dst := some 159, op := Op.call { callee := Callee.value (Operand.func 22), args := #[Operand.tmp 158, Operand.const (Value.int IntKind.i64 0)], argTypes := #[9, 3] }, type := 9, pos := "law.go:103", after := #[{ on := 18, ground := Ground.data }, { on := 14, ground := Ground.chain }, { on := 11, ground := Ground.guard }], guard := some (11, false) }) rfl (fun K hK => ?_) AllReadyH.nil
          go_simp
          refine (HR5.out _).mono ?_
          rintro e1 wt ⟨rfl, hnq⟩
          go_wp2_with fail
          have hn := hn.new hnq
          (try have hb5 := hb5.new hnq)
          refine hK.out _ _ (by first | exact hn | exact Upd.alloc hn _) (fun hn => ?_)
          clear hK K
          try simp only [Act.put, List.setIfInBounds_toArray, List.set_cons_zero, List.set_cons_succ]
          refine wpAnyH_take (i := 20) (oi := { dst := some 160, op := Op.binOp BinOp.neq 9 (Operand.tmp 155) (Operand.tmp 159) 9, type := 4, pos := "law.go:103", after := #[{ on := 15, ground := Ground.data }, { on := 19, ground := Ground.data }, { on := 11, ground := Ground.guard }], guard := some (11, false) }) (v := ?v1x15) rfl (by kernel_rfl) (by kernel_rfl) (by kernel_rfl) (fun _ _ _ h => h) (Or.inl ⟨by rfl, ?y1x15⟩) hn ?r1x15
          case y1x15 => (intro wS hS; (try go_simp); (try with_reducible rfl))
          try simp only [Act.put, List.setIfInBounds_toArray, List.set_cons_zero, List.set_cons_succ]
          refine wpAnyH_take (i := 21) (oi := { dst := some 161, op := Op.pick (Operand.tmp 151) (Operand.const (Value.bool true)) (Operand.tmp 160), type := 4, pos := "law.go:103", after := #[{ on := 11, ground := Ground.data }, { on := 20, ground := Ground.data }, { on := 1, ground := Ground.guard }], guard := some (1, true) }) (v := ?v1x16) rfl (by kernel_rfl) (by kernel_rfl) (by kernel_rfl) (fun _ _ _ h => h) (Or.inl ⟨by rfl, ?y1x16⟩) hn ?r1x16
          case y1x16 => (intro wS hS; (try go_simp); (try with_reducible rfl))
          try simp only [Act.put, List.setIfInBounds_toArray, List.set_cons_zero, List.set_cons_succ]
          refine wpAnyH_take (i := 22) (oi := { dst := some 162, op := Op.pick (Operand.tmp 141) (Operand.tmp 161) (Operand.const (Value.bool false)), type := 4, pos := "law.go:103", after := #[{ on := 1, ground := Ground.data }, { on := 21, ground := Ground.data }], guard := none }) (v := ?v1x17) rfl (by kernel_rfl) (by kernel_rfl) (by kernel_rfl) (fun _ _ _ h => h) (Or.inl ⟨by rfl, ?y1x17⟩) hn ?r1x17
          case y1x17 => (intro wS hS; (try go_simp); (try with_reducible rfl))
          try simp only [Act.put, List.setIfInBounds_toArray, List.set_cons_zero, List.set_cons_succ]
          refine wpAnyH_take (i := 23) (oi := { dst := some 163, op := Op.move (Operand.tmp 162), type := 4, pos := "law.go:103", after := #[{ on := 22, ground := Ground.data }, { on := 19, ground := Ground.chain }], guard := none }) (v := ?v1x18) rfl (by kernel_rfl) (by kernel_rfl) (by kernel_rfl) (fun _ _ _ h => h) (Or.inl ⟨by rfl, ?y1x18⟩) hn ?r1x18
          case y1x18 => (intro wS hS; (try go_simp); (try with_reducible rfl))
          try simp only [Act.put, List.setIfInBounds_toArray, List.set_cons_zero, List.set_cons_succ]
          refine wpAnyH_take (i := 24) (oi := { dst := some 164, op := Op.move (Operand.tmp 10), type := 4, pos := "law.go:103", after := #[{ on := 23, ground := Ground.guard }], guard := some (23, false) }) (v := ?v1x19) rfl (by kernel_rfl) (by kernel_rfl) (by kernel_rfl) (fun _ _ _ h => h) (Or.inl ⟨by rfl, ?y1x19⟩) hn ?r1x19
          case y1x19 => (intro wS hS; (try go_simp); (try with_reducible rfl))
          try simp only [Act.put, List.setIfInBounds_toArray, List.set_cons_zero, List.set_cons_succ]
          refine wpAnyH_take (i := 25) (oi := { dst := some 165, op := Op.move (Operand.tmp 164), type := 4, pos := "law.go:103", after := #[{ on := 24, ground := Ground.data }, { on := 23, ground := Ground.chain }, { on := 23, ground := Ground.guard }], guard := some (23, false) }) (v := ?v1x20) rfl (by kernel_rfl) (by kernel_rfl) (by kernel_rfl) (fun _ _ _ h => h) (Or.inl ⟨by rfl, ?y1x20⟩) hn ?r1x20
          case y1x20 => (intro wS hS; (try go_simp); (try with_reducible rfl))
          try simp only [Act.put, List.setIfInBounds_toArray, List.set_cons_zero, List.set_cons_succ]
          refine wpAnyH_take (i := 26) (oi := { dst := some 166, op := Op.load 37 (Operand.tmp 6), type := 37, pos := "law.go:103", after := #[{ on := 25, ground := Ground.guard }], guard := some (25, true) }) (v := ?v1x21) rfl (by kernel_rfl) (by kernel_rfl) (by kernel_rfl) (fun _ _ _ h => h) (Or.inl ⟨by rfl, ?y1x21⟩) hn ?r1x21
          case y1x21 => (intro wS hS; have c0 : wS.cell? ⟨g6, 0, none⟩ = some (.bool lh) := cellAt hS.b6 0 rfl; have c1 : wS.cell? ⟨g6, 1, none⟩ = some (.int .u32 (lmn : Nat)) := cellAt hS.b6 1 rfl; have c2 : wS.cell? ⟨g6, 2, none⟩ = some (.int .u32 (lmx : Nat)) := cellAt hS.b6 2 rfl; (try go_simp); (try with_reducible rfl))
          try simp only [Act.put, List.setIfInBounds_toArray, List.set_cons_zero, List.set_cons_succ]
          refine wpAnyH_take (i := 29) (oi := { dst := some 169, op := Op.fieldAddr 32 (Operand.tmp 2) 2, type := 0, pos := "law.go:103", after := #[{ on := 25, ground := Ground.guard }], guard := some (25, true) }) (v := ?v1x22) rfl (by kernel_rfl) (by kernel_rfl) (by kernel_rfl) (fun _ _ _ h => h) (Or.inl ⟨by rfl, ?y1x22⟩) hn ?r1x22
          case y1x22 => (intro wS hS; (try go_simp); (try with_reducible rfl))
          try simp only [Act.put, List.setIfInBounds_toArray, List.set_cons_zero, List.set_cons_succ]
          refine wpAnyH_take (i := 30) (oi := { dst := some 170, op := Op.load 26 (Operand.tmp 169), type := 26, pos := "law.go:103", after := #[{ on := 29, ground := Ground.data }, { on := 25, ground := Ground.guard }], guard := some (25, true) }) (v := ?v1x23) rfl (by kernel_rfl) (by kernel_rfl) (by kernel_rfl) (fun _ _ _ h => h) (Or.inl ⟨by rfl, ?y1x23⟩) hn ?r1x23
          case y1x23 => (intro wS hS; have c0 := hS.tw.atx 3 rfl; have c1 := hS.tw.atx 4 rfl; have c2 := hS.tw.atx 5 rfl; (try go_simp); (try with_reducible rfl))
          try simp only [Act.put, List.setIfInBounds_toArray, List.set_cons_zero, List.set_cons_succ]
          refine wpAnyH_ready (rs := [27]) (by kernel_rfl) (by simp) ?_
          refine AllReadyH.cons (o := { dst := some 167, op := Op.call { callee := Callee.value (Operand.func 23), args := #[Operand.tmp 166, Operand.const (Value.slice none 0 0)], argTypes := #[37, 50] }, type := 50, pos := "law.go:103", after := #[{ on := 26, ground := Ground.data }, { on := 25, ground := Ground.chain }, { on := 25, ground := Ground.guard }], guard := some (25, true) }) rfl (fun K hK => ?_) AllReadyH.nil
          go_simp
          refine (HP6.out _).mono ?_
          rintro e1 wu ⟨v6, rfl, hb6, ha6⟩
          obtain ⟨hnq, -⟩ := Adds.nil ha6
          obtain ⟨a6, m6, c6, rfl⟩ : ∃ a n c, v6 = .slice a n c := (by obtain ⟨a, c, e⟩ := hb6.rd.shape; exact ⟨a, _, c, e⟩)
          go_wp2_with fail
          have hn := hn.new hnq
          refine hK.out _ _ (by first | exact hn | exact Upd.alloc hn _) (fun hn => ?_)
          clear hK K
          try simp only [Act.put, List.setIfInBounds_toArray, List.set_cons_zero, List.set_cons_succ]
          refine wpAnyH_ready (rs := [28, 31]) (by kernel_rfl) (by simp) ?_
          refine AllReadyH.cons (o := { dst := some 168, op := Op.convert 50 9 (Operand.tmp 167), type := 9, pos := "law.go:103", after := #[{ on := 27, ground := Ground.data }, { on := 25, ground := Ground.guard }], guard := some (25, true) }) rfl (fun K hK => ?_) ?_
          · skip
            have hs := hb6.rd.str
            go_simp
            refine hK.out _ _ (by first | exact hn | exact Upd.alloc hn _) (fun hn => ?_)
            clear hK K
            try simp only [Act.put, List.setIfInBounds_toArray, List.set_cons_zero, List.set_cons_succ]
            refine wpAnyH_ready (rs := [31]) (by kernel_rfl) (by simp) ?_
            refine AllReadyH.cons (o := { dst := some 171, op := Op.call { callee := Callee.value (Operand.func 24), args := #[Operand.tmp 170, Operand.const (Value.int IntKind.i64 0)], argTypes := #[26, 3] }, type := 9, pos := "law.go:103", after := #[{ on := 30, ground := Ground.data }, { on := 27, ground := Ground.chain }, { on := 25, ground := Ground.guard }], guard := some (25, true) }) rfl (fun K hK => ?_) AllReadyH.nil
            go_simp
            refine (HR6.out _).mono ?_
            rintro e1 wv ⟨rfl, hnq⟩
            go_wp2_with fail
            have hn := hn.new hnq
            (try have hb6 := hb6.new hnq)
            refine hK.out _ _ (by first | exact hn | exact Upd.alloc hn _) (fun hn => ?_)
            clear hK K
            try simp only [Act.put, List.setIfInBounds_toArray, List.set_cons_zero, List.set_cons_succ]
            refine wpAnyH_take (i := 32) (oi := { dst := some 172, op := Op.binOp BinOp.neq 9 (Operand.tmp 168) (Operand.tmp 171) 9, type := 4, pos := "law.go:103", after := #[{ on := 28, ground := Ground.data }, { on := 31, ground := Ground.data }, { on := 25, ground := Ground.guard }], guard := some (25, true) }) (v := ?v1x24) rfl (by kernel_rfl) (by kernel_rfl) (by kernel_rfl) (fun _ _ _ h => h) (Or.inl ⟨by rfl, ?y1x24⟩) hn ?r1x24
            case y1x24 => (intro wS hS; (try go_simp); (try with_reducible rfl))
            try simp only [Act.put, List.setIfInBounds_toArray, List.set_cons_zero, List.set_cons_succ]
            refine wpAnyH_take (i := 33) (oi := { dst := some 173, op := Op.pick (Operand.tmp 165) (Operand.tmp 172) (Operand.const (Value.bool false)), type := 4, pos := "law.go:103", after := #[{ on := 25, ground := Ground.data }, { on := 32, ground := Ground.data }, { on := 23, ground := Ground.guard }], guard := some (23, false) }) (v := ?v1x25) rfl (by kernel_rfl) (by kernel_rfl) (by kernel_rfl) (fun _ _ _ h => h) (Or.inl ⟨by rfl, ?y1x25⟩) hn ?r1x25
            case y1x25 => (intro wS hS; (try go_simp); (try with_reducible rfl))
            try simp only [Act.put, List.setIfInBounds_toArray, List.set_cons_zero, List.set_cons_succ]
            refine wpAnyH_take (i := 34) (oi := { dst := some 174, op := Op.pick (Operand.tmp 163) (Operand.const (Value.bool true)) (Operand.tmp 173), type := 4, pos := "law.go:103", after := #[{ on := 23, ground := Ground.data }, { on := 33, ground := Ground.data }], guard := none }) (v := ?v1x26) rfl (by kernel_rfl) (by kernel_rfl) (by kernel_rfl) (fun _ _ _ h => h) (Or.inl ⟨by rfl, ?y1x26⟩) hn ?r1x26
            case y1x26 => (intro wS hS; (try go_simp); (try with_reducible rfl))
            try simp only [Act.put, List.setIfInBounds_toArray, List.set_cons_zero, List.set_cons_succ]
            refine wpAnyH_done (by kernel_rfl) ?_ _
            refine NoPanic.normal ?_
            exact HK.out _ _ _ _ _ _ _ _ _ _ _ _ _ _ _ _ _ _ _ _ _ _ _ _ _ _ _ _ _ _ _ _ _ _ _ hn
          refine AllReadyH.cons (o := { dst := some 171, op := Op.call { callee := Callee.value (Operand.func 24), args := #[Operand.tmp 170, Operand.const (Value.int IntKind.i64 0)], argTypes := #[26, 3] }, type := 9, pos := "law.go:103", after := #[{ on := 30, ground := Ground.data }, { on := 27, ground := Ground.chain }, { on := 25, ground := Ground.guard }], guard := some (25, true) }) rfl (fun K hK => ?_) AllReadyH.nil
          go_simp
          refine (HR6.out _).mono ?_
          rintro e1 wv ⟨rfl, hnq⟩
          go_wp2_with fail
          have hn := hn.new hnq
          (try have hb6 := hb6.new hnq)
          refine hK.out _ _ (by first | exact hn | exact Upd.alloc hn _) (fun hn => ?_)
          clear hK K
          try simp only [Act.put, List.setIfInBounds_toArray, List.set_cons_zero, List.set_cons_succ]
          refine wpAnyH_ready (rs := [28]) (by kernel_rfl) (by simp) ?_
          refine AllReadyH.cons (o := { dst := some 168, op := Op.convert 50 9 (Operand.tmp 167), type := 9, pos := "law.go:103", after := #[{ on := 27, ground := Ground.data }, { on := 25, ground := Ground.guard }], guard := some (25, true) }) rfl (fun K hK => ?_) AllReadyH.nil
          have hs := hb6.rd.str
          go_simp
          refine hK.out _ _ (by first | exact hn | exact Upd.alloc hn _) (fun hn => ?_)
          clear hK K
          try simp only [Act.put, List.setIfInBounds_toArray, List.set_cons_zero, List.set_cons_succ]
          refine wpAnyH_take (i := 32) (oi := { dst := some 172, op := Op.binOp BinOp.neq 9 (Operand.tmp 168) (Operand.tmp 171) 9, type := 4, pos := "law.go:103", after := #[{ on := 28, ground := Ground.data }, { on := 31, ground := Ground.data }, { on := 25, ground := Ground.guard }], guard := some (25, true) }) (v := ?v1x27) rfl (by kernel_rfl) (by kernel_rfl) (by kernel_rfl) (fun _ _ _ h => h) (Or.inl ⟨by rfl, ?y1x27⟩) hn ?r1x27
          case y1x27 => (intro wS hS; (try go_simp); (try with_reducible rfl))
          try simp only [Act.put, List.setIfInBounds_toArray, List.set_cons_zero, List.set_cons_succ]
          refine wpAnyH_take (i := 33) (oi := { dst := some 173, op := Op.pick (Operand.tmp 165) (Operand.tmp 172) (Operand.const (Value.bool false)), type := 4, pos := "law.go:103", after := #[{ on := 25, ground := Ground.data }, { on := 32, ground := Ground.data }, { on := 23, ground := Ground.guard }], guard := some (23, false) }) (v := ?v1x28) rfl (by kernel_rfl) (by kernel_rfl) (by kernel_rfl) (fun _ _ _ h => h) (Or.inl ⟨by rfl, ?y1x28⟩) hn ?r1x28
          case y1x28 => (intro wS hS; (try go_simp); (try with_reducible rfl))
          try simp only [Act.put, List.setIfInBounds_toArray, List.set_cons_zero, List.set_cons_succ]
          refine wpAnyH_take (i := 34) (oi := { dst := some 174, op := Op.pick (Operand.tmp 163) (Operand.const (Value.bool true)) (Operand.tmp 173), type := 4, pos := "law.go:103", after := #[{ on := 23, ground := Ground.data }, { on := 33, ground := Ground.data }], guard := none }) (v := ?v1x29) rfl (by kernel_rfl) (by kernel_rfl) (by kernel_rfl) (fun _ _ _ h => h) (Or.inl ⟨by rfl, ?y1x29⟩) hn ?r1x29
          case y1x29 => (intro wS hS; (try go_simp); (try with_reducible rfl))
          try simp only [Act.put, List.setIfInBounds_toArray, List.set_cons_zero, List.set_cons_succ]
          refine wpAnyH_done (by kernel_rfl) ?_ _
          refine NoPanic.normal ?_
          exact HK.out _ _ _ _ _ _ _ _ _ _ _ _ _ _ _ _ _ _ _ _ _ _ _ _ _ _ _ _ _ _ _ _ _ _ _ hn
        refine AllReadyH.cons (o := { dst := some 159, op := Op.call { callee := Callee.value (Operand.func 22), args := #[Operand.tmp 158, Operand.const (Value.int IntKind.i64 0)], argTypes := #[9, 3] }, type := 9, pos := "law.go:103", after := #[{ on := 18, ground := Ground.data }, { on := 14, ground := Ground.chain }, { on := 11, ground := Ground.guard }], guard := some (11, false) }) rfl (fun K hK => ?_) AllReadyH.nil
        go_simp
        refine (HR5.out _).mono ?_
        rintro e1 wt ⟨rfl, hnq⟩
        go_wp2_with fail
        have hn := hn.new hnq
        (try have hb5 := hb5.new hnq)
        refine hK.out _ _ (by first | exact hn | exact Upd.alloc hn _) (fun hn => ?_)
        clear hK K
        try simp only [Act.put, List.setIfInBounds_toArray, List.set_cons_zero, List.set_cons_succ]
        refine wpAnyH_ready (rs := [15]) (by kernel_rfl) (by simp) ?_
        refine AllReadyH.cons (o := { dst := some 155, op := Op.convert 50 9 (Operand.tmp 154), type := 9, pos := "law.go:103", after := #[{ on := 14, ground := Ground.data }, { on := 11, ground := Ground.guard }], guard := some (11, false) }) rfl (fun K hK => ?_) AllReadyH.nil
        have hs := hb5.rd.str
        go_simp
        refine hK.out _ _ (by first | exact hn | exact Upd.alloc hn _) (fun hn => ?_)
        clear hK K
        try simp only [Act.put, List.setIfInBounds_toArray, List.set_cons_zero, List.set_cons_succ]
        refine wpAnyH_take (i := 20) (oi := { dst := some 160, op := Op.binOp BinOp.neq 9 (Operand.tmp 155) (Operand.tmp 159) 9, type := 4, pos := "law.go:103", after := #[{ on := 15, ground := Ground.data }, { on := 19, ground := Ground.data }, { on := 11, ground := Ground.guard }], guard := some (11, false) }) (v := ?v1x30) rfl (by kernel_rfl) (by kernel_rfl) (by kernel_rfl) (fun _ _ _ h => h) (Or.inl ⟨by rfl, ?y1x30⟩) hn ?r1x30
        case y1x30 => (intro wS hS; (try go_simp); (try with_reducible rfl))
        try simp only [Act.put, List.setIfInBounds_toArray, List.set_cons_zero, List.set_cons_succ]
        refine wpAnyH_take (i := 21) (oi := { dst := some 161, op := Op.pick (Operand.tmp 151) (Operand.const (Value.bool true)) (Operand.tmp 160), type := 4, pos := "law.go:103", after := #[{ on := 11, ground := Ground.data }, { on := 20, ground := Ground.data }, { on := 1, ground := Ground.guard }], guard := some (1, true) }) (v := ?v1x31) rfl (by kernel_rfl) (by kernel_rfl) (by kernel_rfl) (fun _ _ _ h => h) (Or.inl ⟨by rfl, ?y1x31⟩) hn ?r1x31
        case y1x31 => (intro wS hS; (try go_simp); (try with_reducible rfl))
        try simp only [Act.put, List.setIfInBounds_toArray, List.set_cons_zero, List.set_cons_succ]
        refine wpAnyH_take (i := 22) (oi := { dst := some 162, op := Op.pick (Operand.tmp 141) (Operand.tmp 161) (Operand.const (Value.bool false)), type := 4, pos := "law.go:103", after := #[{ on := 1, ground := Ground.data }, { on := 21, ground := Ground.data }], guard := none }) (v := ?v1x32) rfl (by kernel_rfl) (by kernel_rfl) (by kernel_rfl) (fun _ _ _ h => h) (Or.inl ⟨by rfl, ?y1x32⟩) hn ?r1x32
        case y1x32 => (intro wS hS; (try go_simp); (try with_reducible rfl))
        try simp only [Act.put, List.setIfInBounds_toArray, List.set_cons_zero, List.set_cons_succ]
        refine wpAnyH_take (i := 23) (oi := { dst := some 163, op := Op.move (Operand.tmp 162), type := 4, pos := "law.go:103", after := #[{ on := 22, ground := Ground.data }, { on := 19, ground := Ground.chain }], guard := none }) (v := ?v1x33) rfl (by kernel_rfl) (by kernel_rfl) (by kernel_rfl) (fun _ _ _ h => h) (Or.inl ⟨by rfl, ?y1x33⟩) hn ?r1x33
        case y1x33 => (intro wS hS; (try go_simp); (try with_reducible rfl))
        try simp only [Act.put, List.setIfInBounds_toArray, List.set_cons_zero, List.set_cons_succ]
        refine wpAnyH_take (i := 24) (oi := { dst := some 164, op := Op.move (Operand.tmp 10), type := 4, pos := "law.go:103", after := #[{ on := 23, ground := Ground.guard }], guard := some (23, false) }) (v := ?v1x34) rfl (by kernel_rfl) (by kernel_rfl) (by kernel_rfl) (fun _ _ _ h => h) (Or.inl ⟨by rfl, ?y1x34⟩) hn ?r1x34
        case y1x34 => (intro wS hS; (try go_simp); (try with_reducible rfl))
        try simp only [Act.put, List.setIfInBounds_toArray, List.set_cons_zero, List.set_cons_succ]
        refine wpAnyH_take (i := 25) (oi := { dst := some 165, op := Op.move (Operand.tmp 164), type := 4, pos := "law.go:103", after := #[{ on := 24, ground := Ground.data }, { on := 23, ground := Ground.chain }, { on := 23, ground := Ground.guard }], guard := some (23, false) }) (v := ?v1x35) rfl (by kernel_rfl) (by kernel_rfl) (by kernel_rfl) (fun _ _ _ h => h) (Or.inl ⟨by rfl, ?y1x35⟩) hn ?r1x35
        case y1x35 => (intro wS hS; (try go_simp); (try with_reducible rfl))
        try simp only [Act.put, List.setIfInBounds_toArray, List.set_cons_zero, List.set_cons_succ]
        refine wpAnyH_take (i := 26) (oi := { dst := some 166, op := Op.load 37 (Operand.tmp 6), type := 37, pos := "law.go:103", after := #[{ on := 25, ground := Ground.guard }], guard := some (25, true) }) (v := ?v1x36) rfl (by kernel_rfl) (by kernel_rfl) (by kernel_rfl) (fun _ _ _ h => h) (Or.inl ⟨by rfl, ?y1x36⟩) hn ?r1x36
        case y1x36 => (intro wS hS; have c0 : wS.cell? ⟨g6, 0, none⟩ = some (.bool lh) := cellAt hS.b6 0 rfl; have c1 : wS.cell? ⟨g6, 1, none⟩ = some (.int .u32 (lmn : Nat)) := cellAt hS.b6 1 rfl; have c2 : wS.cell? ⟨g6, 2, none⟩ = some (.int .u32 (lmx : Nat)) := cellAt hS.b6 2 rfl; (try go_simp); (try with_reducible rfl))
        try simp only [Act.put, List.setIfInBounds_toArray, List.set_cons_zero, List.set_cons_succ]
        refine wpAnyH_take (i := 29) (oi := { dst := some 169, op := Op.fieldAddr 32 (Operand.tmp 2) 2, type := 0, pos := "law.go:103", after := #[{ on := 25, ground := Ground.guard }], guard := some (25, true) }) (v := ?v1x37) rfl (by kernel_rfl) (by kernel_rfl) (by kernel_rfl) (fun _ _ _ h => h) (Or.inl ⟨by rfl, ?y1x37⟩) hn ?r1x37
        case y1x37 => (intro wS hS; (try go_simp); (try with_reducible rfl))
        try simp only [Act.put, List.setIfInBounds_toArray, List.set_cons_zero, List.set_cons_succ]
        refine wpAnyH_take (i := 30) (oi := { dst := some 170, op := Op.load 26 (Operand.tmp 169), type := 26, pos := "law.go:103", after := #[{ on := 29, ground := Ground.data }, { on := 25, ground := Ground.guard }], guard := some (25, true) }) (v := ?v1x38) rfl (by kernel_rfl) (by kernel_rfl) (by kernel_rfl) (fun _ _ _ h => h) (Or.inl ⟨by rfl, ?y1x38⟩) hn ?r1x38
        case y1x38 => (intro wS hS; have c0 := hS.tw.atx 3 rfl; have c1 := hS.tw.atx 4 rfl; have c2 := hS.tw.atx 5 rfl; (try go_simp); (try with_reducible rfl))
        try simp only [Act.put, List.setIfInBounds_toArray, List.set_cons_zero, List.set_cons_succ]
        refine wpAnyH_ready (rs := [27]) (by kernel_rfl) (by simp) ?_
        refine AllReadyH.cons (o := { dst := some 167, op := Op.call { callee := Callee.value (Operand.func 23), args := #[Operand.tmp 166, Operand.const (Value.slice none 0 0)], argTypes := #[37, 50] }, type := 50, pos := "law.go:103", after := #[{ on := 26, ground := Ground.data }, { on := 25, ground := Ground.chain }, { on := 25, ground := Ground.guard }], guard := some (25, true) }) rfl (fun K hK => ?_) AllReadyH.nil
        go_simp
        refine (HP6.out _).mono ?_
        rintro e1 wu ⟨v6, rfl, hb6, ha6⟩
        obtain ⟨hnq, -⟩ := Adds.nil ha6
        obtain ⟨a6, m6, c6, rfl⟩ : ∃ a n c, v6 = .slice a n c := (by obtain ⟨a, c, e⟩ := hb6.rd.shape; exact ⟨a, _, c, e⟩)
        go_wp2_with fail
        have hn := hn.new hnq
        refine hK.out _ _ (by first | exact hn | exact Upd.alloc hn _) (fun hn => ?_)
        clear hK K
        try simp only [Act.put, List.setIfInBounds_toArray, List.set_cons_zero, List.set_cons_succ]
        refine wpAnyH_ready (rs := [28, 31]) (by kernel_rfl) (by simp) ?_
        refine AllReadyH.cons (o := { dst := some 168, op := Op.convert 50 9 (Operand.tmp 167), type := 9, pos := "law.go:103", after := #[{ on := 27, ground := Ground.data }, { on := 25, ground := Ground.guard }], guard := some (25, true) }) rfl (fun K hK => ?_) ?_
        · skip
          have hs := hb6.rd.str
          go_simp
          refine hK.out _ _ (by first | exact hn | exact Upd.alloc hn _) (fun hn => ?_)
          clear hK K
          try simp only [Act.put, List.setIfInBounds_toArray, List.set_cons_zero, List.set_cons_succ]
          refine wpAnyH_ready (rs := [31]) (by kernel_rfl) (by simp) ?_
          refine AllReadyH.cons (o := { dst := some 171, op := Op.call { callee := Callee.value (Operand.func 24), args := #[Operand.tmp 170, Operand.const (Value.int IntKind.i64 0)], argTypes := #[26, 3] }, type := 9, pos := "law.go:103", after := #[{ on := 30, ground := Ground.data }, { on := 27, ground := Ground.chain }, { on := 25, ground := Ground.guard }], guard := some (25, true) }) rfl (fun K hK => ?_) AllReadyH.nil
          go_simp
          refine (HR6.out _).mono ?_
          rintro e1 wv ⟨rfl, hnq⟩
          go_wp2_with fail
          have hn := hn.new hnq
          (try have hb6 := hb6.new hnq)
          refine hK.out _ _ (by first | exact hn | exact Upd.alloc hn _) (fun hn => ?_)
          clear hK K
          try simp only [Act.put, List.setIfInBounds_toArray, List.set_cons_zero, List.set_cons_succ]
          refine wpAnyH_take (i := 32) (oi := { dst := some 172, op := Op.binOp BinOp.neq 9 (Operand.tmp 168) (Operand.tmp 171) 9, type := 4, pos := "law.go:103", after := #[{ on := 28, ground := Ground.data }, { on := 31, ground := Ground.data }, { on := 25, ground := Ground.guard }], guard := some (25, true) }) (v := ?v1x39) rfl (by kernel_rfl) (by kernel_rfl) (by kernel_rfl) (fun _ _ _ h => h) (Or.inl ⟨by rfl, ?y1x39⟩) hn ?r1x39
          case y1x39 => (intro wS hS; (try go_simp); (try with_reducible rfl))
          try simp only [Act.put, List.setIfInBounds_toArray, List.set_cons_zero, List.set_cons_succ]
          refine wpAnyH_take (i := 33) (oi := { dst := some 173, op := Op.pick (Operand.tmp 165) (Operand.tmp 172) (Operand.const (Value.bool false)), type := 4, pos := "law.go:103", after := #[{ on := 25, ground := Ground.data }, { on := 32, ground := Ground.data }, { on := 23, ground := Ground.guard }], guard := some (23, false) }) (v := ?v1x40) rfl (by kernel_rfl) (by kernel_rfl) (by kernel_rfl) (fun _ _ _ h => h) (Or.inl ⟨by rfl, ?y1x40⟩) hn ?r1x40
          case y1x40 => (intro wS hS; (try go_simp); (try with_reducible rfl))
          try simp only [Act.put, List.setIfInBounds_toArray, List.set_cons_zero, List.set_cons_succ]
          refine wpAnyH_take (i := 34) (oi := { dst := some 174, op := Op.pick (Operand.tmp 163) (Operand.const (Value.bool true)) (Operand.tmp 173), type := 4, pos := "law.go:103", after := #[{ on := 23, ground := Ground.data }, { on := 33, ground := Ground.data }], guard := none }) (v := ?v1x41) rfl (by kernel_rfl) (by kernel_rfl) (by kernel_rfl) (fun _ _ _ h => h) (Or.inl ⟨by rfl, ?y1x41⟩) hn ?r1x41
          case y1x41 => (intro wS hS; (try go_simp); (try with_reducible rfl))
          try simp only [Act.put, List.setIfInBounds_toArray, List.set_cons_zero, List.set_cons_succ]
          refine wpAnyH_done (by kernel_rfl) ?_ _
          refine NoPanic.normal ?_
          exact HK.out _ _ _ _ _ _ _ _ _ _ _ _ _ _ _ _ _ _ _ _ _ _ _ _ _ _ _ _ _ _ _ _ _ _ _ hn
        refine AllReadyH.cons (o := { dst := some 171, op := Op.call { callee := Callee.value (Operand.func 24), args := #[Operand.tmp 170, Operand.const (Value.int IntKind.i64 0)], argTypes := #[26, 3] }, type := 9, pos := "law.go:103", after := #[{ on := 30, ground := Ground.data }, { on := 27, ground := Ground.chain }, { on := 25, ground := Ground.guard }], guard := some (25, true) }) rfl (fun K hK => ?_) AllReadyH.nil
        go_simp
        refine (HR6.out _).mono ?_
        rintro e1 wv ⟨rfl, hnq⟩
        go_wp2_with fail
        have hn := hn.new hnq
        (try have hb6 := hb6.new hnq)
        refine hK.out _ _ (by first | exact hn | exact Upd.alloc hn _) (fun hn => ?_)
        clear hK K
        try simp only [Act.put, List.setIfInBounds_toArray, List.set_cons_zero, List.set_cons_succ]
        refine wpAnyH_ready (rs := [28]) (by kernel_rfl) (by simp) ?_
        refine AllReadyH.cons (o := { dst := some 168, op := Op.convert 50 9 (Operand.tmp 167), type := 9, pos := "law.go:103", after := #[{ on := 27, ground := Ground.data }, { on := 25, ground := Ground.guard }], guard := some (25, true) }) rfl (fun K hK => ?_) AllReadyH.nil
        have hs := hb6.rd.str
        go_simp
        refine hK.out _ _ (by first | exact hn | exact Upd.alloc hn _) (fun hn => ?_)
        clear hK K
        try simp only [Act.put, List.setIfInBounds_toArray, List.set_cons_zero, List.set_cons_succ]
        refine wpAnyH_take (i := 32) (oi := { dst := some 172, op := Op.binOp BinOp.neq 9 (Operand.tmp 168) (Operand.tmp 171) 9, type := 4, pos := "law.go:103", after := #[{ on := 28, ground := Ground.data }, { on := 31, ground := Ground.data }, { on := 25, ground := Ground.guard }], guard := some (25, true) }) (v := ?v1x42) rfl (by kernel_rfl) (by kernel_rfl) (by kernel_rfl) (fun _ _ _ h => h) (Or.inl ⟨by rfl, ?y1x42⟩) hn ?r1x42
        case y1x42 => (intro wS hS; (try go_simp); (try with_reducible rfl))
        try simp only [Act.put, List.setIfInBounds_toArray, List.set_cons_zero, List.set_cons_succ]
        refine wpAnyH_take (i := 33) (oi := { dst := some 173, op := Op.pick (Operand.tmp 165) (Operand.tmp 172) (Operand.const (Value.bool false)), type := 4, pos := "law.go:103", after := #[{ on := 25, ground := Ground.data }, { on := 32, ground := Ground.data }, { on := 23, ground := Ground.guard }], guard := some (23, false) }) (v := ?v1x43) rfl (by kernel_rfl) (by kernel_rfl) (by kernel_rfl) (fun _ _ _ h => h) (Or.inl ⟨by rfl, ?y1x43⟩) hn ?r1x43
        case y1x43 => (intro wS hS; (try go_simp); (try with_reducible rfl))
        try simp only [Act.put, List.setIfInBounds_toArray, List.set_cons_zero, List.set_cons_succ]
        refine wpAnyH_take (i := 34) (oi := { dst := some 174, op := Op.pick (Operand.tmp 163) (Operand.const (Value.bool true)) (Operand.tmp 173), type := 4, pos := "law.go:103", after := #[{ on := 23, ground := Ground.data }, { on := 33, ground := Ground.data }], guard := none }) (v := ?v1x44) rfl (by kernel_rfl) (by kernel_rfl) (by kernel_rfl) (fun _ _ _ h => h) (Or.inl ⟨by rfl, ?y1x44⟩) hn ?r1x44
        case y1x44 => (intro wS hS; (try go_simp); (try with_reducible rfl))
        try simp only [Act.put, List.setIfInBounds_toArray, List.set_cons_zero, List.set_cons_succ]
        refine wpAnyH_done (by kernel_rfl) ?_ _
        refine NoPanic.normal ?_
        exact HK.out _ _ _ _ _ _ _ _ _ _ _ _ _ _ _ _ _ _ _ _ _ _ _ _ _ _ _ _ _ _ _ _ _ _ _ hn
      refine AllReadyH.cons (o := { dst := some 148, op := Op.call { callee := Callee.value (Operand.func 20), args := #[Operand.tmp 147, Operand.const (Value.int IntKind.i64 0)], argTypes := #[23, 3] }, type := 9, pos := "law.go:103", after := #[{ on := 7, ground := Ground.data }, { on := 4, ground := Ground.chain }, { on := 1, ground := Ground.guard }], guard := some (1, true) }) rfl (fun K hK => ?_) AllReadyH.nil
      go_simp
      refine (HR4.out _).mono ?_
      rintro e1 wr ⟨rfl, hnq⟩
      go_wp2_with fail
      have hn := hn.new hnq
      (try have hb4 := hb4.new hnq)
      refine hK.out _ _ (by first | exact hn | exact Upd.alloc hn _) (fun hn => ?_)
      clear hK K
      try simp only [Act.put, List.setIfInBounds_toArray, List.set_cons_zero, List.set_cons_succ]
      refine wpAnyH_take (i := 9) (oi := { dst := some 149, op := Op.binOp BinOp.add 9 (Operand.const (Value.string { data := #[9] })) (Operand.tmp 148) 9, type := 9, pos := "law.go:103", after := #[{ on := 8, ground := Ground.data }, { on := 1, ground := Ground.guard }], guard := some (1, true) }) (v := ?v1x45) rfl (by kernel_rfl) (by kernel_rfl) (by kernel_rfl) (fun _ _ _ h => h) (Or.inl ⟨by rfl, ?y1x45⟩) hn ?r1x45
      case y1x45 => (intro wS hS; go_simp; rw [HJ1.out]; (try go_simp); (try with_reducible rfl))
      try simp only [Act.put, List.setIfInBounds_toArray, List.set_cons_zero, List.set_cons_succ]
      refine wpAnyH_ready (rs := [5]) (by kernel_rfl) (by simp) ?_
      refine AllReadyH.cons (o := { dst := some 145, op := Op.convert 50 9 (Operand.tmp 144), type := 9, pos := "law.go:103", after := #[{ on := 4, ground := Ground.data }, { on := 1, ground := Ground.guard }], guard := some (1, true) }) rfl (fun K hK => ?_) AllReadyH.nil
      have hs := hb4.rd.str
      go_simp
      refine hK.out _ _ (by first | exact hn | exact Upd.alloc hn _) (fun hn => ?_)
      clear hK K
      try simp only [Act.put, List.setIfInBounds_toArray, List.set_cons_zero, List.set_cons_succ]
      refine wpAnyH_take (i := 10) (oi := { dst := some 150, op := Op.binOp BinOp.neq 9 (Operand.tmp 145) (Operand.tmp 149) 9, type := 4, pos := "law.go:103", after := #[{ on := 5, ground := Ground.data }, { on := 9, ground := Ground.data }, { on := 1, ground := Ground.guard }], guard := some (1, true) }) (v := ?v1x46) rfl (by kernel_rfl) (by kernel_rfl) (by kernel_rfl) (fun _ _ _ h => h) (Or.inl ⟨by rfl, ?y1x46⟩) hn ?r1x46
      case y1x46 => (intro wS hS; (try go_simp); (try with_reducible rfl))
      try simp only [Act.put, List.setIfInBounds_toArray, List.set_cons_zero, List.set_cons_succ]
      refine wpAnyH_take (i := 11) (oi := { dst := some 151, op := Op.move (Operand.tmp 150), type := 4, pos := "law.go:103", after := #[{ on := 10, ground := Ground.data }, { on := 8, ground := Ground.chain }, { on := 1, ground := Ground.guard }], guard := some (1, true) }) (v := ?v1x47) rfl (by kernel_rfl) (by kernel_rfl) (by kernel_rfl) (fun _ _ _ h => h) (Or.inl ⟨by rfl, ?y1x47⟩) hn ?r1x47
      case y1x47 => (intro wS hS; (try go_simp); (try with_reducible rfl))
      try simp only [Act.put, List.setIfInBounds_toArray, List.set_cons_zero, List.set_cons_succ]
      refine wpAnyH_take (i := 12) (oi := { dst := some 152, op := Op.fieldAddr 35 (Operand.tmp 5) 0, type := 0, pos := "law.go:103", after := #[{ on := 11, ground := Ground.guard }], guard := some (11, false) }) (v := ?v1x48) rfl (by kernel_rfl) (by kernel_rfl) (by kernel_rfl) (fun _ _ _ h => h) (Or.inl ⟨by rfl, ?y1x48⟩) hn ?r1x48
      case y1x48 => (intro wS hS; (try go_simp); (try with_reducible rfl))
      try simp only [Act.put, List.setIfInBounds_toArray, List.set_cons_zero, List.set_cons_succ]
      refine wpAnyH_take (i := 13) (oi := { dst := some 153, op := Op.load 33 (Operand.tmp 152), type := 33, pos := "law.go:103", after := #[{ on := 12, ground := Ground.data }, { on := 11, ground := Ground.guard }], guard := some (11, false) }) (v := ?v1x49) rfl (by kernel_rfl) (by kernel_rfl) (by kernel_rfl) (fun _ _ _ h => h) (Or.inl ⟨by rfl, ?y1x49⟩) hn ?r1x49
      case y1x49 => (intro wS hS; have c0 : wS.cell? ⟨g5, 0, none⟩ = some (.slice y1 (lb p).length k1) := cellAt hS.b5 0 rfl; (try go_simp); (try with_reducible rfl))
      try simp only [Act.put, List.setIfInBounds_toArray, List.set_cons_zero, List.set_cons_succ]
      refine wpAnyH_take (i := 16) (oi := { dst := some 156, op := Op.fieldAddr 32 (Operand.tmp 2) 1, type := 0, pos := "law.go:103", after := #[{ on := 11, ground := Ground.guard }], guard := some (11, false) }) (v := ?v1x50) rfl (by kernel_rfl) (by kernel_rfl) (by kernel_rfl) (fun _ _ _ h => h) (Or.inl ⟨by rfl, ?y1x50⟩) hn ?r1x50
      case y1x50 => (intro wS hS; (try go_simp); (try with_reducible rfl))
      try simp only [Act.put, List.setIfInBounds_toArray, List.set_cons_zero, List.set_cons_succ]
      refine wpAnyH_take (i := 17) (oi := { dst := some 157, op := Op.fieldAddr 23 (Operand.tmp 156) 0, type := 0, pos := "law.go:103", after := #[{ on := 16, ground := Ground.data }, { on := 11, ground := Ground.guard }], guard := some (11, false) }) (v := ?v1x51) rfl (by kernel_rfl) (by kernel_rfl) (by kernel_rfl) (fun _ _ _ h => h) (Or.inl ⟨by rfl, ?y1x51⟩) hn ?r1x51
      case y1x51 => (intro wS hS; (try go_simp); (try with_reducible rfl))
      try simp only [Act.put, List.setIfInBounds_toArray, List.set_cons_zero, List.set_cons_succ]
      refine wpAnyH_take (i := 18) (oi := { dst := some 158, op := Op.load 9 (Operand.tmp 157), type := 9, pos := "law.go:103", after := #[{ on := 17, ground := Ground.data }, { on := 11, ground := Ground.guard }], guard := some (11, false) }) (v := ?v1x52) rfl (by kernel_rfl) (by kernel_rfl) (by kernel_rfl) (fun _ _ _ h => h) (Or.inl ⟨by rfl, ?y1x52⟩) hn ?r1x52
      case y1x52 => (intro wS hS; have c0 := hS.tw.atx 1 rfl; (try go_simp); (try with_reducible rfl))
      try simp only [Act.put, List.setIfInBounds_toArray, List.set_cons_zero, List.set_cons_succ]
      refine wpAnyH_ready (rs := [14]) (by kernel_rfl) (by simp) ?_
      refine AllReadyH.cons (o := { dst := some 154, op := Op.call { callee := Callee.value (Operand.func 21), args := #[Operand.const (Value.slice none 0 0), Operand.tmp 153], argTypes := #[50, 33] }, type := 50, pos := "law.go:103", after := #[{ on := 13, ground := Ground.data }, { on := 11, ground := Ground.chain }, { on := 11, ground := Ground.guard }], guard := some (11, false) }) rfl (fun K hK => ?_) AllReadyH.nil
      go_simp
      refine (HP5.out _ hn).mono ?_
      rintro e1 ws ⟨v5, rfl, hb5, ha5⟩
      obtain ⟨hnq, -⟩ := Adds.nil ha5
      obtain ⟨a5, m5, c5, rfl⟩ : ∃ a n c, v5 = .slice a n c := (by obtain ⟨a, c, e⟩ := hb5.rd.shape; exact ⟨a, _, c, e⟩)
      go_wp2_with fail
      have hn := hn.new hnq
      (try have hb4 := hb4.new hnq)
      refine hK.out _ _ (by first | exact hn | exact Upd.alloc hn _) (fun hn => ?_)
      clear hK K
      try simp only [Act.put, List.setIfInBounds_toArray, List.set_cons_zero, List.set_cons_succ]
      refine wpAnyH_ready (rs := [15, 19]) (by kernel_rfl) (by simp) ?_
      refine AllReadyH.cons (o := { dst := some 155, op := Op.convert 50 9 (Operand.tmp 154), type := 9, pos := "law.go:103", after := #[{ on := 14, ground := Ground.data }, { on := 11, ground := Ground.guard }], guard := some (11, false) }) rfl (fun K hK => ?_) ?_
      · skip
        have hs := hb5.rd.str
        go_simp
        refine hK.out _ _ (by first | exact hn | exact Upd.alloc hn _) (fun hn => ?_)
        clear hK K
        try simp only [Act.put, List.setIfInBounds_toArray, List.set_cons_zero, List.set_cons_succ]
        refine wpAnyH_ready (rs := [19]) (by kernel_rfl) (by simp) ?_
        refine AllReadyH.cons (o := { dst := some 159, op := Op.call { callee := Callee.value (Operand.func 22), args := #[Operand.tmp 158, Operand.const (Value.int IntKind.i64 0)], argTypes := #[9, 3] }, type := 9, pos := "law.go:103", after := #[{ on := 18, ground := Ground.data }, { on := 14, ground := Ground.chain }, { on := 11, ground := Ground.guard }], guard := some (11, false) }) rfl (fun K hK => ?_) AllReadyH.nil
        go_simp
        refine (HR5.out _).mono ?_
        rintro e1 wt ⟨rfl, hnq⟩
        go_wp2_with fail
        have hn := hn.new hnq
        (try have hb5 := hb5.new hnq)
        refine hK.out _ _ (by first | exact hn | exact Upd.alloc hn _) (fun hn => ?_)
        clear hK K
        try simp only [Act.put, List.setIfInBounds_toArray, List.set_cons_zero, List.set_cons_succ]
        refine wpAnyH_take (i := 20) (oi := { dst := some 160, op := Op.binOp BinOp.neq 9 (Operand.tmp 155) (Operand.tmp 159) 9, type := 4, pos := "law.go:103", after := #[{ on := 15, ground := Ground.data }, { on := 19, ground := Ground.data }, { on := 11, ground := Ground.guard }], guard := some (11, false) }) (v := ?v1x53) rfl (by kernel_rfl) (by kernel_rfl) (by kernel_rfl) (fun _ _ _ h => h) (Or.inl ⟨by rfl, ?y1x53⟩) hn ?r1x53
        case y1x53 => (intro wS hS; (try go_simp); (try with_reducible rfl))
        try simp only [Act.put, List.setIfInBounds_toArray, List.set_cons_zero, List.set_cons_succ]
        refine wpAnyH_take (i := 21) (oi := { dst := some 161, op := Op.pick (Operand.tmp 151) (Operand.const (Value.bool true)) (Operand.tmp 160), type := 4, pos := "law.go:103", after := #[{ on := 11, ground := Ground.data }, { on := 20, ground := Ground.data }, { on := 1, ground := Ground.guard }], guard := some (1, true) }) (v := ?v1x54) rfl (by kernel_rfl) (by kernel_rfl) (by kernel_rfl) (fun _ _ _ h => h) (Or.inl ⟨by rfl, ?y1x54⟩) hn ?r1x54
        case y1x54 => (intro wS hS; (try go_simp); (try with_reducible rfl))
        try simp only [Act.put, List.setIfInBounds_toArray, List.set_cons_zero, List.set_cons_succ]
        refine wpAnyH_take (i := 22) (oi := { dst := some 162, op := Op.pick (Operand.tmp 141) (Operand.tmp 161) (Operand.const (Value.bool false)), type := 4, pos := "law.go:103", after := #[{ on := 1, ground := Ground.data }, { on := 21, ground := Ground.data }], guard := none }) (v := ?v1x55) rfl (by kernel_rfl) (by kernel_rfl) (by kernel_rfl) (fun _ _ _ h => h) (Or.inl ⟨by rfl, ?y1x55⟩) hn ?r1x55
        case y1x55 => (intro wS hS; (try go_simp); (try with_reducible rfl))
        try simp only [Act.put, List.setIfInBounds_toArray, List.set_cons_zero, List.set_cons_succ]
        refine wpAnyH_take (i := 23) (oi := { dst := some 163, op := Op.move (Operand.tmp 162), type := 4, pos := "law.go:103", after := #[{ on := 22, ground := Ground.data }, { on := 19, ground := Ground.chain }], guard := none }) (v := ?v1x56) rfl (by kernel_rfl) (by kernel_rfl) (by kernel_rfl) (fun _ _ _ h => h) (Or.inl ⟨by rfl, ?y1x56⟩) hn ?r1x56
        case y1x56 => (intro wS hS; (try go_simp); (try with_reducible rfl))
        try simp only [Act.put, List.setIfInBounds_toArray, List.set_cons_zero, List.set_cons_succ]
        refine wpAnyH_take (i := 24) (oi := { dst := some 164, op := Op.move (Operand.tmp 10), type := 4, pos := "law.go:103", after := #[{ on := 23, ground := Ground.guard }], guard := some (23, false) }) (v := ?v1x57) rfl (by kernel_rfl) (by kernel_rfl) (by kernel_rfl) (fun _ _ _ h => h) (Or.inl ⟨by rfl, ?y1x57⟩) hn ?r1x57
        case y1x57 => (intro wS hS; (try go_simp); (try with_reducible rfl))
        try simp only [Act.put, List.setIfInBounds_toArray, List.set_cons_zero, List.set_cons_succ]
        refine wpAnyH_take (i := 25) (oi := { dst := some 165, op := Op.move (Operand.tmp 164), type := 4, pos := "law.go:103", after := #[{ on := 24, ground := Ground.data }, { on := 23, ground := Ground.chain }, { on := 23, ground := Ground.guard }], guard := some (23, false) }) (v := ?v1x58) rfl (by kernel_rfl) (by kernel_rfl) (by kernel_rfl) (fun _ _ _ h => h) (Or.inl ⟨by rfl, ?y1x58⟩) hn ?r1x58
        case y1x58 => (intro wS hS; (try go_simp); (try with_reducible rfl))
        try simp only [Act.put, List.setIfInBounds_toArray, List.set_cons_zero, List.set_cons_succ]
        refine wpAnyH_take (i := 26) (oi := { dst := some 166, op := Op.load 37 (Operand.tmp 6), type := 37, pos := "law.go:103", after := #[{ on := 25, ground := Ground.guard }], guard := some (25, true) }) (v := ?v1x59) rfl (by kernel_rfl) (by kernel_rfl) (by kernel_rfl) (fun _ _ _ h => h) (Or.inl ⟨by rfl, ?y1x59⟩) hn ?r1x59
        case y1x59 => (intro wS hS; have c0 : wS.cell? ⟨g6, 0, none⟩ = some (.bool lh) := cellAt hS.b6 0 rfl; have c1 : wS.cell? ⟨g6, 1, none⟩ = some (.int .u32 (lmn : Nat)) := cellAt hS.b6 1 rfl; have c2 : wS.cell? ⟨g6, 2, none⟩ = some (.int .u32 (lmx : Nat)) := cellAt hS.b6 2 rfl; (try go_simp); (try with_reducible rfl))
        try simp only [Act.put, List.setIfInBounds_toArray, List.set_cons_zero, List.set_cons_succ]
        refine wpAnyH_take (i := 29) (oi := { dst := some 169, op := Op.fieldAddr 32 (Operand.tmp 2) 2, type := 0, pos := "law.go:103", after := #[{ on := 25, ground := Ground.guard }], guard := some (25, true) }) (v := ?v1x60) rfl (by kernel_rfl) (by kernel_rfl) (by kernel_rfl) (fun _ _ _ h => h) (Or.inl ⟨by rfl, ?y1x60⟩) hn ?r1x60
        case y1x60 => (intro wS hS; (try go_simp); (try with_reducible rfl))
        try simp only [Act.put, List.setIfInBounds_toArray, List.set_cons_zero, List.set_cons_succ]
        refine wpAnyH_take (i := 30) (oi := { dst := some 170, op := Op.load 26 (Operand.tmp 169), type := 26, pos := "law.go:103", after := #[{ on := 29, ground := Ground.data }, { on := 25, ground := Ground.guard }], guard := some (25, true) }) (v := ?v1x61) rfl (by kernel_rfl) (by kernel_rfl) (by kernel_rfl) (fun _ _ _ h => h) (Or.inl ⟨by rfl, ?y1x61⟩) hn ?r1x61
        case y1x61 => (intro wS hS; have c0 := hS.tw.atx 3 rfl; have c1 := hS.tw.atx 4 rfl; have c2 := hS.tw.atx 5 rfl; (try go_simp); (try with_reducible rfl))
        try simp only [Act.put, List.setIfInBounds_toArray, List.set_cons_zero, List.set_cons_succ]
        refine wpAnyH_ready (rs := [27]) (by kernel_rfl) (by simp) ?_
        refine AllReadyH.cons (o := { dst := some 167, op := Op.call { callee := Callee.value (Operand.func 23), args := #[Operand.tmp 166, Operand.const (Value.slice none 0 0)], argTypes := #[37, 50] }, type := 50, pos := "law.go:103", after := #[{ on := 26, ground := Ground.data }, { on := 25, ground := Ground.chain }, { on := 25, ground := Ground.guard }], guard := some (25, true) }) rfl (fun K hK => ?_) AllReadyH.nil
        go_simp
        refine (HP6.out _).mono ?_
        rintro e1 wu ⟨v6, rfl, hb6, ha6⟩
        obtain ⟨hnq, -⟩ := Adds.nil ha6
        obtain ⟨a6, m6, c6, rfl⟩ : ∃ a n c, v6 = .slice a n c := (by obtain ⟨a, c, e⟩ := hb6.rd.shape; exact ⟨a, _, c, e⟩)
        go_wp2_with fail
        have hn := hn.new hnq
        refine hK.out _ _ (by first | exact hn | exact Upd.alloc hn _) (fun hn => ?_)
        clear hK K
        try simp only [Act.put, List.setIfInBounds_toArray, List.set_cons_zero, List.set_cons_succ]
        refine wpAnyH_ready (rs := [28, 31]) (by kernel_rfl) (by simp) ?_
        refine AllReadyH.cons (o := { dst := some 168, op := Op.convert 50 9 (Operand.tmp 167), type := 9, pos := "law.go:103", after := #[{ on := 27, ground := Ground.data }, { on := 25, ground := Ground.guard }], guard := some (25, true) }) rfl (fun K hK => ?_) ?_
        · skip
          have hs := hb6.rd.str
          go_simp
          refine hK.out _ _ (by first | exact hn | exact Upd.alloc hn _) (fun hn => ?_)
          clear hK K
          try simp only [Act.put, List.setIfInBounds_toArray, List.set_cons_zero, List.set_cons_succ]
          refine wpAnyH_ready (rs := [31]) (by kernel_rfl) (by simp) ?_
          refine AllReadyH.cons (o := { dst := some 171, op := Op.call { callee := Callee.value (Operand.func 24), args := #[Operand.tmp 170, Operand.const (Value.int IntKind.i64 0)], argTypes := #[26, 3] }, type := 9, pos := "law.go:103", after := #[{ on := 30, ground := Ground.data }, { on := 27, ground := Ground.chain }, { on := 25, ground := Ground.guard }], guard := some (25, true) }) rfl (fun K hK => ?_) AllReadyH.nil
          go_simp
          refine (HR6.out _).mono ?_
          rintro e1 wv ⟨rfl, hnq⟩
          go_wp2_with fail
          have hn := hn.new hnq
          (try have hb6 := hb6.new hnq)
          refine hK.out _ _ (by first | exact hn | exact Upd.alloc hn _) (fun hn => ?_)
          clear hK K
          try simp only [Act.put, List.setIfInBounds_toArray, List.set_cons_zero, List.set_cons_succ]
          refine wpAnyH_take (i := 32) (oi := { dst := some 172, op := Op.binOp BinOp.neq 9 (Operand.tmp 168) (Operand.tmp 171) 9, type := 4, pos := "law.go:103", after := #[{ on := 28, ground := Ground.data }, { on := 31, ground := Ground.data }, { on := 25, ground := Ground.guard }], guard := some (25, true) }) (v := ?v1x62) rfl (by kernel_rfl) (by kernel_rfl) (by kernel_rfl) (fun _ _ _ h => h) (Or.inl ⟨by rfl, ?y1x62⟩) hn ?r1x62
          case y1x62 => (intro wS hS; (try go_simp); (try with_reducible rfl))
          try simp only [Act.put, List.setIfInBounds_toArray, List.set_cons_zero, List.set_cons_succ]
          refine wpAnyH_take (i := 33) (oi := { dst := some 173, op := Op.pick (Operand.tmp 165) (Operand.tmp 172) (Operand.const (Value.bool false)), type := 4, pos := "law.go:103", after := #[{ on := 25, ground := Ground.data }, { on := 32, ground := Ground.data }, { on := 23, ground := Ground.guard }], guard := some (23, false) }) (v := ?v1x63) rfl (by kernel_rfl) (by kernel_rfl) (by kernel_rfl) (fun _ _ _ h => h) (Or.inl ⟨by rfl, ?y1x63⟩) hn ?r1x63
          case y1x63 => (intro wS hS; (try go_simp); (try with_reducible rfl))
          try simp only [Act.put, List.setIfInBounds_toArray, List.set_cons_zero, List.set_cons_succ]
          refine wpAnyH_take (i := 34) (oi := { dst := some 174, op := Op.pick (Operand.tmp 163) (Operand.const (Value.bool true)) (Operand.tmp 173), type := 4, pos := "law.go:103", after := #[{ on := 23, ground := Ground.data }, { on := 33, ground := Ground.data }], guard := none }) (v := ?v1x64) rfl (by kernel_rfl) (by kernel_rfl) (by kernel_rfl) (fun _ _ _ h => h) (Or.inl ⟨by rfl, ?y1x64⟩) hn ?r1x64
          case y1x64 => (intro wS hS; (try go_simp); (try with_reducible rfl))
          try simp only [Act.put, List.setIfInBounds_toArray, List.set_cons_zero, List.set_cons_succ]
          refine wpAnyH_done (by kernel_rfl) ?_ _
          refine NoPanic.normal ?_
          exact HK.out _ _ _ _ _ _ _ _ _ _ _ _ _ _ _ _ _ _ _ _ _ _ _ _ _ _ _ _ _ _ _ _ _ _ _ hn
        refine AllReadyH.cons (o := { dst := some 171, op := Op.call { callee := Callee.value (Operand.func 24), args := #[Operand.tmp 170, Operand.const (Value.int IntKind.i64 0)], argTypes := #[26, 3] }, type := 9, pos := "law.go:103", after := #[{ on := 30, ground := Ground.data }, { on := 27, ground := Ground.chain }, { on := 25, ground := Ground.guard }], guard := some (25, true) }) rfl (fun K hK => ?_) AllReadyH.nil
        go_simp
        refine (HR6.out _).mono ?_
        rintro e1 wv ⟨rfl, hnq⟩
        go_wp2_with fail
        have hn := hn.new hnq
        (try have hb6 := hb6.new hnq)
        refine hK.out _ _ (by first | exact hn | exact Upd.alloc hn _) (fun hn => ?_)
        clear hK K
        try simp only [Act.put, List.setIfInBounds_toArray, List.set_cons_zero, List.set_cons_succ]
        refine wpAnyH_ready (rs := [28]) (by kernel_rfl) (by simp) ?_
        refine AllReadyH.cons (o := { dst := some 168, op := Op.convert 50 9 (Operand.tmp 167), type := 9, pos := "law.go:103", after := #[{ on := 27, ground := Ground.data }, { on := 25, ground := Ground.guard }], guard := some (25, true) }) rfl (fun K hK => ?_) AllReadyH.nil
        have hs := hb6.rd.str
        go_simp
        refine hK.out _ _ (by first | exact hn | exact Upd.alloc hn _) (fun hn => ?_)
        clear hK K
        try simp only [Act.put, List.setIfInBounds_toArray, List.set_cons_zero, List.set_cons_succ]
        refine wpAnyH_take (i := 32) (oi := { dst := some 172, op := Op.binOp BinOp.neq 9 (Operand.tmp 168) (Operand.tmp 171) 9, type := 4, pos := "law.go:103", after := #[{ on := 28, ground := Ground.data }, { on := 31, ground := Ground.data }, { on := 25, ground := Ground.guard }], guard := some (25, true) }) (v := ?v1x65) rfl (by kernel_rfl) (by kernel_rfl) (by kernel_rfl) (fun _ _ _ h => h) (Or.inl ⟨by rfl, ?y1x65⟩) hn ?r1x65
        case y1x65 => (intro wS hS; (try go_simp); (try with_reducible rfl))
        try simp only [Act.put, List.setIfInBounds_toArray, List.set_cons_zero, List.set_cons_succ]
        refine wpAnyH_take (i := 33) (oi := { dst := some 173, op := Op.pick (Operand.tmp 165) (Operand.tmp 172) (Operand.const (Value.bool false)), type := 4, pos := "law.go:103", after := #[{ on := 25, ground := Ground.data }, { on := 32, ground := Ground.data }, { on := 23, ground := Ground.guard }], guard := some (23, false) }) (v := ?v1x66) rfl (by kernel_rfl) (by kernel_rfl) (by kernel_rfl) (fun _ _ _ h => h) (Or.inl ⟨by rfl, ?y1x66⟩) hn ?r1x66
        case y1x66 => (intro wS hS; (try go_simp); (try with_reducible rfl))
        try simp only [Act.put, List.setIfInBounds_toArray, List.set_cons_zero, List.set_cons_succ]
        refine wpAnyH_take (i := 34) (oi := { dst := some 174, op := Op.pick (Operand.tmp 163) (Operand.const (Value.bool true)) (Operand.tmp 173), type := 4, pos := "law.go:103", after := #[{ on := 23, ground := Ground.data }, { on := 33, ground := Ground.data }], guard := none }) (v := ?v1x67) rfl (by kernel_rfl) (by kernel_rfl) (by kernel_rfl) (fun _ _ _ h => h) (Or.inl ⟨by rfl, ?y1x67⟩) hn ?r1x67
        case y1x67 => (intro wS hS; (try go_simp); (try with_reducible rfl))
        try simp only [Act.put, List.setIfInBounds_toArray, List.set_cons_zero, List.set_cons_succ]
        refine wpAnyH_done (by kernel_rfl) ?_ _
        refine NoPanic.normal ?_
        exact HK.out _ _ _ _ _ _ _ _ _ _ _ _ _ _ _ _ _ _ _ _ _ _ _ _ _ _ _ _ _ _ _ _ _ _ _ hn
      refine AllReadyH.cons (o := { dst := some 159, op := Op.call { callee := Callee.value (Operand.func 22), args := #[Operand.tmp 158, Operand.const (Value.int IntKind.i64 0)], argTypes := #[9, 3] }, type := 9, pos := "law.go:103", after := #[{ on := 18, ground := Ground.data }, { on := 14, ground := Ground.chain }, { on := 11, ground := Ground.guard }], guard := some (11, false) }) rfl (fun K hK => ?_) AllReadyH.nil
      go_simp
      refine (HR5.out _).mono ?_
      rintro e1 wt ⟨rfl, hnq⟩
      go_wp2_with fail
      have hn := hn.new hnq
      (try have hb5 := hb5.new hnq)
      refine hK.out _ _ (by first | exact hn | exact Upd.alloc hn _) (fun hn => ?_)
      clear hK K
      try simp only [Act.put, List.setIfInBounds_toArray, List.set_cons_zero, List.set_cons_succ]
      refine wpAnyH_ready (rs := [15]) (by kernel_rfl) (by simp) ?_
      refine AllReadyH.cons (o := { dst := some 155, op := Op.convert 50 9 (Operand.tmp 154), type := 9, pos := "law.go:103", after := #[{ on := 14, ground := Ground.data }, { on := 11, ground := Ground.guard }], guard := some (11, false) }) rfl (fun K hK => ?_) AllReadyH.nil
      have hs := hb5.rd.str
      go_simp
      refine hK.out _ _ (by first | exact hn | exact Upd.alloc hn _) (fun hn => ?_)
      clear hK K
      try simp only [Act.put, List.setIfInBounds_toArray, List.set_cons_zero, List.set_cons_succ]
      refine wpAnyH_take (i := 20) (oi := { dst := some 160, op := Op.binOp BinOp.neq 9 (Operand.tmp 155) (Operand.tmp 159) 9, type := 4, pos := "law.go:103", after := #[{ on := 15, ground := Ground.data }, { on := 19, ground := Ground.data }, { on := 11, ground := Ground.guard }], guard := some (11, false) }) (v := ?v1x68) rfl (by kernel_rfl) (by kernel_rfl) (by kernel_rfl) (fun _ _ _ h => h) (Or.inl ⟨by rfl, ?y1x68⟩) hn ?r1x68
      case y1x68 => (intro wS hS; (try go_simp); (try with_reducible rfl))
      try simp only [Act.put, List.setIfInBounds_toArray, List.set_cons_zero, List.set_cons_succ]
      refine wpAnyH_take (i := 21) (oi := { dst := some 161, op := Op.pick (Operand.tmp 151) (Operand.const (Value.bool true)) (Operand.tmp 160), type := 4, pos := "law.go:103", after := #[{ on := 11, ground := Ground.data }, { on := 20, ground := Ground.data }, { on := 1, ground := Ground.guard }], guard := some (1, true) }) (v := ?v1x69) rfl (by kernel_rfl) (by kernel_rfl) (by kernel_rfl) (fun _ _ _ h => h) (Or.inl ⟨by rfl, ?y1x69⟩) hn ?r1x69
      case y1x69 => (intro wS hS; (try go_simp); (try with_reducible rfl))
      try simp only [Act.put, List.setIfInBounds_toArray, List.set_cons_zero, List.set_cons_succ]
      refine wpAnyH_take (i := 22) (oi := { dst := some 162, op := Op.pick (Operand.tmp 141) (Operand.tmp 161) (Operand.const (Value.bool false)), type := 4, pos := "law.go:103", after := #[{ on := 1, ground := Ground.data }, { on := 21, ground := Ground.data }], guard := none }) (v := ?v1x70) rfl (by kernel_rfl) (by kernel_rfl) (by kernel_rfl) (fun _ _ _ h => h) (Or.inl ⟨by rfl, ?y1x70⟩) hn ?r1x70
      case y1x70 => (intro wS hS; (try go_simp); (try with_reducible rfl))
      try simp only [Act.put, List.setIfInBounds_toArray, List.set_cons_zero, List.set_cons_succ]
      refine wpAnyH_take (i := 23) (oi := { dst := some 163, op := Op.move (Operand.tmp 162), type := 4, pos := "law.go:103", after := #[{ on := 22, ground := Ground.data }, { on := 19, ground := Ground.chain }], guard := none }) (v := ?v1x71) rfl (by kernel_rfl) (by kernel_rfl) (by kernel_rfl) (fun _ _ _ h => h) (Or.inl ⟨by rfl, ?y1x71⟩) hn ?r1x71
      case y1x71 => (intro wS hS; (try go_simp); (try with_reducible rfl))
      try simp only [Act.put, List.setIfInBounds_toArray, List.set_cons_zero, List.set_cons_succ]
      refine wpAnyH_take (i := 24) (oi := { dst := some 164, op := Op.move (Operand.tmp 10), type := 4, pos := "law.go:103", after := #[{ on := 23, ground := Ground.guard }], guard := some (23, false) }) (v := ?v1x72) rfl (by kernel_rfl) (by kernel_rfl) (by kernel_rfl) (fun _ _ _ h => h) (Or.inl ⟨by rfl, ?y1x72⟩) hn ?r1x72
      case y1x72 => (intro wS hS; (try go_simp); (try with_reducible rfl))
      try simp only [Act.put, List.setIfInBounds_toArray, List.set_cons_zero, List.set_cons_succ]
      refine wpAnyH_take (i := 25) (oi := { dst := some 165, op := Op.move (Operand.tmp 164), type := 4, pos := "law.go:103", after := #[{ on := 24, ground := Ground.data }, { on := 23, ground := Ground.chain }, { on := 23, ground := Ground.guard }], guard := some (23, false) }) (v := ?v1x73) rfl (by kernel_rfl) (by kernel_rfl) (by kernel_rfl) (fun _ _ _ h => h) (Or.inl ⟨by rfl, ?y1x73⟩) hn ?r1x73
      case y1x73 => (intro wS hS; (try go_simp); (try with_reducible rfl))
      try simp only [Act.put, List.setIfInBounds_toArray, List.set_cons_zero, List.set_cons_succ]
      refine wpAnyH_take (i := 26) (oi := { dst := some 166, op := Op.load 37 (Operand.tmp 6), type := 37, pos := "law.go:103", after := #[{ on := 25, ground := Ground.guard }], guard := some (25, true) }) (v := ?v1x74) rfl (by kernel_rfl) (by kernel_rfl) (by kernel_rfl) (fun _ _ _ h => h) (Or.inl ⟨by rfl, ?y1x74⟩) hn ?r1x74
      case y1x74 => (intro wS hS; have c0 : wS.cell? ⟨g6, 0, none⟩ = some (.bool lh) := cellAt hS.b6 0 rfl; have c1 : wS.cell? ⟨g6, 1, none⟩ = some (.int .u32 (lmn : Nat)) := cellAt hS.b6 1 rfl; have c2 : wS.cell? ⟨g6, 2, none⟩ = some (.int .u32 (lmx : Nat)) := cellAt hS.b6 2 rfl; (try go_simp); (try with_reducible rfl))
      try simp only [Act.put, List.setIfInBounds_toArray, List.set_cons_zero, List.set_cons_succ]
      refine wpAnyH_take (i := 29) (oi := { dst := some 169, op := Op.fieldAddr 32 (Operand.tmp 2) 2, type := 0, pos := "law.go:103", after := #[{ on := 25, ground := Ground.guard }], guard := some (25, true) }) (v := ?v1x75) rfl (by kernel_rfl) (by kernel_rfl) (by kernel_rfl) (fun _ _ _ h => h) (Or.inl ⟨by rfl, ?y1x75⟩) hn ?r1x75
      case y1x75 => (intro wS hS; (try go_simp); (try with_reducible rfl))
      try simp only [Act.put, List.setIfInBounds_toArray, List.set_cons_zero, List.set_cons_succ]
      refine wpAnyH_take (i := 30) (oi := { dst := some 170, op := Op.load 26 (Operand.tmp 169), type := 26, pos := "law.go:103", after := #[{ on := 29, ground := Ground.data }, { on := 25, ground := Ground.guard }], guard := some (25, true) }) (v := ?v1x76) rfl (by kernel_rfl) (by kernel_rfl) (by kernel_rfl) (fun _ _ _ h => h) (Or.inl ⟨by rfl, ?y1x76⟩) hn ?r1x76
      case y1x76 => (intro wS hS; have c0 := hS.tw.atx 3 rfl; have c1 := hS.tw.atx 4 rfl; have c2 := hS.tw.atx 5 rfl; (try go_simp); (try with_reducible rfl))
      try simp only [Act.put, List.setIfInBounds_toArray, List.set_cons_zero, List.set_cons_succ]
      refine wpAnyH_ready (rs := [27]) (by kernel_rfl) (by simp) ?_
      refine AllReadyH.cons (o := { dst := some 167, op := Op.call { callee := Callee.value (Operand.func 23), args := #[Operand.tmp 166, Operand.const (Value.slice none 0 0)], argTypes := #[37, 50] }, type := 50, pos := "law.go:103", after := #[{ on := 26, ground := Ground.data }, { on := 25, ground := Ground.chain }, { on := 25, ground := Ground.guard }], guard := some (25, true) }) rfl (fun K hK => ?_) AllReadyH.nil
      go_simp
      refine (HP6.out _).mono ?_
      rintro e1 wu ⟨v6, rfl, hb6, ha6⟩
      obtain ⟨hnq, -⟩ := Adds.nil ha6
      obtain ⟨a6, m6, c6, rfl⟩ : ∃ a n c, v6 = .slice a n c := (by obtain ⟨a, c, e⟩ := hb6.rd.shape; exact ⟨a, _, c, e⟩)
      go_wp2_with fail
      have hn := hn.new hnq
      refine hK.out _ _ (by first | exact hn | exact Upd.alloc hn _) (fun hn => ?_)
      clear hK K
      try simp only [Act.put, List.setIfInBounds_toArray, List.set_cons_zero, List.set_cons_succ]
      refine wpAnyH_ready (rs := [28, 31]) (by kernel_rfl) (by simp) ?_
      refine AllReadyH.cons (o := { dst := some 168, op := Op.convert 50 9 (Operand.tmp 167), type := 9, pos := "law.go:103", after := #[{ on := 27, ground := Ground.data }, { on := 25, ground := Ground.guard }], guard := some (25, true) }) rfl (fun K hK => ?_) ?_
      · skip
        have hs := hb6.rd.str
        go_simp
        refine hK.out _ _ (by first | exact hn | exact Upd.alloc hn _) (fun hn => ?_)
        clear hK K
        try simp only [Act.put, List.setIfInBounds_toArray, List.set_cons_zero, List.set_cons_succ]
        refine wpAnyH_ready (rs := [31]) (by kernel_rfl) (by simp) ?_
        refine AllReadyH.cons (o := { dst := some 171, op := Op.call { callee := Callee.value (Operand.func 24), args := #[Operand.tmp 170, Operand.const (Value.int IntKind.i64 0)], argTypes := #[26, 3] }, type := 9, pos := "law.go:103", after := #[{ on := 30, ground := Ground.data }, { on := 27, ground := Ground.chain }, { on := 25, ground := Ground.guard }], guard := some (25, true) }) rfl (fun K hK => ?_) AllReadyH.nil
        go_simp
        refine (HR6.out _).mono ?_
        rintro e1 wv ⟨rfl, hnq⟩
        go_wp2_with fail
        have hn := hn.new hnq
        (try have hb6 := hb6.new hnq)
        refine hK.out _ _ (by first | exact hn | exact Upd.alloc hn _) (fun hn => ?_)
        clear hK K
        try simp only [Act.put, List.setIfInBounds_toArray, List.set_cons_zero, List.set_cons_succ]
        refine wpAnyH_take (i := 32) (oi := { dst := some 172, op := Op.binOp BinOp.neq 9 (Operand.tmp 168) (Operand.tmp 171) 9, type := 4, pos := "law.go:103", after := #[{ on := 28, ground := Ground.data }, { on := 31, ground := Ground.data }, { on := 25, ground := Ground.guard }], guard := some (25, true) }) (v := ?v1x77) rfl (by kernel_rfl) (by kernel_rfl) (by kernel_rfl) (fun _ _ _ h => h) (Or.inl ⟨by rfl, ?y1x77⟩) hn ?r1x77
        case y1x77 => (intro wS hS; (try go_simp); (try with_reducible rfl))
        try simp only [Act.put, List.setIfInBounds_toArray, List.set_cons_zero, List.set_cons_succ]
        refine wpAnyH_take (i := 33) (oi := { dst := some 173, op := Op.pick (Operand.tmp 165) (Operand.tmp 172) (Operand.const (Value.bool false)), type := 4, pos := "law.go:103", after := #[{ on := 25, ground := Ground.data }, { on := 32, ground := Ground.data }, { on := 23, ground := Ground.guard }], guard := some (23, false) }) (v := ?v1x78) rfl (by kernel_rfl) (by kernel_rfl) (by kernel_rfl) (fun _ _ _ h => h) (Or.inl ⟨by rfl, ?y1x78⟩) hn ?r1x78
        case y1x78 => (intro wS hS; (try go_simp); (try with_reducible rfl))
        try simp only [Act.put, List.setIfInBounds_toArray, List.set_cons_zero, List.set_cons_succ]
        refine wpAnyH_take (i := 34) (oi := { dst := some 174, op := Op.pick (Operand.tmp 163) (Operand.const (Value.bool true)) (Operand.tmp 173), type := 4, pos := "law.go:103", after := #[{ on := 23, ground := Ground.data }, { on := 33, ground := Ground.data }], guard := none }) (v := ?v1x79) rfl (by kernel_rfl) (by kernel_rfl) (by kernel_rfl) (fun _ _ _ h => h) (Or.inl ⟨by rfl, ?y1x79⟩) hn ?r1x79
        case y1x79 => (intro wS hS; (try go_simp); (try with_reducible rfl))
        try simp only [Act.put, List.setIfInBounds_toArray, List.set_cons_zero, List.set_cons_succ]
        refine wpAnyH_done (by kernel_rfl) ?_ _
        refine NoPanic.normal ?_
        exact HK.out _ _ _ _ _ _ _ _ _ _ _ _ _ _ _ _ _ _ _ _ _ _ _ _ _ _ _ _ _ _ _ _ _ _ _ hn
      refine AllReadyH.cons (o := { dst := some 171, op := Op.call { callee := Callee.value (Operand.func 24), args := #[Operand.tmp 170, Operand.const (Value.int IntKind.i64 0)], argTypes := #[26, 3] }, type := 9, pos := "law.go:103", after := #[{ on := 30, ground := Ground.data }, { on := 27, ground := Ground.chain }, { on := 25, ground := Ground.guard }], guard := some (25, true) }) rfl (fun K hK => ?_) AllReadyH.nil
      go_simp
      refine (HR6.out _).mono ?_
      rintro e1 wv ⟨rfl, hnq⟩
      go_wp2_with fail
      have hn := hn.new hnq
      (try have hb6 := hb6.new hnq)
      refine hK.out _ _ (by first | exact hn | exact Upd.alloc hn _) (fun hn => ?_)
      clear hK K
      try simp only [Act.put, List.setIfInBounds_toArray, List.set_cons_zero, List.set_cons_succ]
      refine wpAnyH_ready (rs := [28]) (by kernel_rfl) (by simp) ?_
      refine AllReadyH.cons (o := { dst := some 168, op := Op.convert 50 9 (Operand.tmp 167), type := 9, pos := "law.go:103", after := #[{ on := 27, ground := Ground.data }, { on := 25, ground := Ground.guard }], guard := some (25, true) }) rfl (fun K hK => ?_) AllReadyH.nil
      have hs := hb6.rd.str
      go_simp
      refine hK.out _ _ (by first | exact hn | exact Upd.alloc hn _) (fun hn => ?_)
      clear hK K
      try simp only [Act.put, List.setIfInBounds_toArray, List.set_cons_zero, List.set_cons_succ]
      refine wpAnyH_take (i := 32) (oi := { dst := some 172, op := Op.binOp BinOp.neq 9 (Operand.tmp 168) (Operand.tmp 171) 9, type := 4, pos := "law.go:103", after := #[{ on := 28, ground := Ground.data }, { on := 31, ground := Ground.data }, { on := 25, ground := Ground.guard }], guard := some (25, true) }) (v := ?v1x80) rfl (by kernel_rfl) (by kernel_rfl) (by kernel_rfl) (fun _ _ _ h => h) (Or.inl ⟨by rfl, ?y1x80⟩) hn ?r1x80
      case y1x80 => (intro wS hS; (try go_simp); (try with_reducible rfl))
      try simp only [Act.put, List.setIfInBounds_toArray, List.set_cons_zero, List.set_cons_succ]
      refine wpAnyH_take (i := 33) (oi := { dst := some 173, op := Op.pick (Operand.tmp 165) (Operand.tmp 172) (Operand.const (Value.bool false)), type := 4, pos := "law.go:103", after := #[{ on := 25, ground := Ground.data }, { on := 32, ground := Ground.data }, { on := 23, ground := Ground.guard }], guard := some (23, false) }) (v := ?v1x81) rfl (by kernel_rfl) (by kernel_rfl) (by kernel_rfl) (fun _ _ _ h => h) (Or.inl ⟨by rfl, ?y1x81⟩) hn ?r1x81
      case y1x81 => (intro wS hS; (try go_simp); (try with_reducible rfl))
      try simp only [Act.put, List.setIfInBounds_toArray, List.set_cons_zero, List.set_cons_succ]
      refine wpAnyH_take (i := 34) (oi := { dst := some 174, op := Op.pick (Operand.tmp 163) (Operand.const (Value.bool true)) (Operand.tmp 173), type := 4, pos := "law.go:103", after := #[{ on := 23, ground := Ground.data }, { on := 33, ground := Ground.data }], guard := none }) (v := ?v1x82) rfl (by kernel_rfl) (by kernel_rfl) (by kernel_rfl) (fun _ _ _ h => h) (Or.inl ⟨by rfl, ?y1x82⟩) hn ?r1x82
      case y1x82 => (intro wS hS; (try go_simp); (try with_reducible rfl))
      try simp only [Act.put, List.setIfInBounds_toArray, List.set_cons_zero, List.set_cons_succ]
      refine wpAnyH_done (by kernel_rfl) ?_ _
      refine NoPanic.normal ?_
      exact HK.out _ _ _ _ _ _ _ _ _ _ _ _ _ _ _ _ _ _ _ _ _ _ _ _ _ _ _ _ _ _ _ _ _ _ _ hn
    | false =>
      refine wp_region_noPanic ?_
      refine wp_region_held_drew (S := (W4 w #[.int .u8 V.toNat, .string p, .string r, .bool lh, .int .u32 (lmn : Nat), .int .u32 (lmx : Nat), .int .u8 e.toNat, .bool th, .int .u32 (tmn : Nat), .int .u32 (tmx : Nat), .int .u8 gt.toNat, .bool gm] #[.string p', .string r'] (lb p) (lb r) #[.bool lh, .int .u32 (lmn : Nat), .int .u32 (lmx : Nat)] #[.int .u8 e.toNat, .bool th, .int .u32 (tmn : Nat), .int .u32 (tmx : Nat)] #[.int .u8 gt.toNat, .bool gm] g5 g6 g7 g8 (.slice y1 (lb p).length k1) (.slice y2 (lb r).length k2))) (by kernel_rfl) (by first | exact hn | exact (Upd.refl _ _).drew | exact Upd.drew (by assumption)) (fun hn => ?_)
      generalize W0.drew = wd at *
      refine wpAnyH_take (i := 0) (oi := { dst := some 140, op := Op.move (Operand.tmp 9), type := 4, pos := "law.go:103", after := #[], guard := none }) (v := ?v2x1) rfl (by kernel_rfl) (by kernel_rfl) (by kernel_rfl) (fun _ _ _ h => h) (Or.inl ⟨by rfl, ?y2x1⟩) hn ?r2x1
      case y2x1 => (intro wS hS; (try go_simp); (try with_reducible rfl))
      try simp only [Act.put, List.setIfInBounds_toArray, List.set_cons_zero, List.set_cons_succ]
      refine wpAnyH_take (i := 1) (oi := { dst := some 141, op := Op.move (Operand.tmp 140), type := 4, pos := "law.go:103", after := #[{ on := 0, ground := Ground.data }], guard := none }) (v := ?v2x2) rfl (by kernel_rfl) (by kernel_rfl) (by kernel_rfl) (fun _ _ _ h => h) (Or.inl ⟨by rfl, ?y2x2⟩) hn ?r2x2
      case y2x2 => (intro wS hS; (try go_simp); (try with_reducible rfl))
      try simp only [Act.put, List.setIfInBounds_toArray, List.set_cons_zero, List.set_cons_succ]
      refine wpAnyH_take (i := 2) (oi := { dst := some 142, op := Op.load 35 (Operand.tmp 5), type := 35, pos := "law.go:103", after := #[{ on := 1, ground := Ground.guard }], guard := some (1, true) }) (v := ?v2x3) rfl (by kernel_rfl) (by kernel_rfl) (by kernel_rfl) (fun _ _ _ h => h) (Or.inl ⟨by rfl, ?y2x3⟩) hn ?r2x3
      case y2x3 => (intro wS hS; have c0 : wS.cell? ⟨g5, 0, none⟩ = some (.slice y1 (lb p).length k1) := cellAt hS.b5 0 rfl; have c1 : wS.cell? ⟨g5, 1, none⟩ = some (.slice y2 (lb r).length k2) := cellAt hS.b5 1 rfl; (try go_simp); (try with_reducible rfl))
      try simp only [Act.put, List.setIfInBounds_toArray, List.set_cons_zero, List.set_cons_succ]
      refine wpAnyH_take (i := 3) (oi := { dst := some 143, op := Op.move (Operand.tmp 12), type := 50, pos := "law.go:103", after := #[{ on := 1, ground := Ground.guard }], guard := some (1, true) }) (v := ?v2x4) rfl (by kernel_rfl) (by kernel_rfl) (by kernel_rfl) (fun _ _ _ h => h) (Or.inl ⟨by rfl, ?y2x4⟩) hn ?r2x4
      case y2x4 => (intro wS hS; (try go_simp); (try with_reducible rfl))
      try simp only [Act.put, List.setIfInBounds_toArray, List.set_cons_zero, List.set_cons_succ]
      refine wpAnyH_take (i := 6) (oi := { dst := some 146, op := Op.fieldAddr 32 (Operand.tmp 2) 1, type := 0, pos := "law.go:103", after := #[{ on := 1, ground := Ground.guard }], guard := some (1, true) }) (v := ?v2x5) rfl (by kernel_rfl) (by kernel_rfl) (by kernel_rfl) (fun _ _ _ h => h) (Or.inl ⟨by rfl, ?y2x5⟩) hn ?r2x5
      case y2x5 => (intro wS hS; (try go_simp); (try with_reducible rfl))
      try simp only [Act.put, List.setIfInBounds_toArray, List.set_cons_zero, List.set_cons_succ]
      refine wpAnyH_take (i := 7) (oi := { dst := some 147, op := Op.load 23 (Operand.tmp 146), type := 23, pos := "law.go:103", after := #[{ on := 6, ground := Ground.data }, { on := 1, ground := Ground.guard }], guard := some (1, true) }) (v := ?v2x6) rfl (by kernel_rfl) (by kernel_rfl) (by kernel_rfl) (fun _ _ _ h => h) (Or.inl ⟨by rfl, ?y2x6⟩) hn ?r2x6
      case y2x6 => (intro wS hS; have c0 := hS.tw.atx 1 rfl; have c1 := hS.tw.atx 2 rfl; (try go_simp); (try with_reducible rfl))
      try simp only [Act.put, List.setIfInBounds_toArray, List.set_cons_zero, List.set_cons_succ]
      refine wpAnyH_ready (rs := [4]) (by kernel_rfl) (by simp) ?_
      refine AllReadyH.cons (o := { dst := some 144, op := Op.call { callee := Callee.value (Operand.func 19), args := #[Operand.tmp 142, Operand.tmp 143], argTypes := #[35, 50] }, type := 50, pos := "law.go:103", after := #[{ on := 2, ground := Ground.data }, { on := 3, ground := Ground.data }, { on := 1, ground := Ground.chain }, { on := 1, ground := Ground.guard }], guard := some (1, true) }) rfl (fun K hK => ?_) AllReadyH.nil
      go_simp
      refine (HP4.out _ hb hn).mono ?_
      rintro e1 wq ⟨v4, rfl, hb4, ha4⟩
      obtain ⟨a4, m4, c4, rfl⟩ : ∃ a n c, v4 = .slice a n c := (by obtain ⟨a, c, e⟩ := hb4.rd.shape; exact ⟨a, _, c, e⟩)
      go_wp2_with fail
      have hn := hn.adds ha4 (fun k hk => ⟨by have h1 : ga = k := Option.some.inj hk; omega, hb.ty k hk⟩)
      refine hK.out _ _ (by first | exact hn | exact Upd.alloc hn _) (fun hn => ?_)
      clear hK K
      try simp only [Act.put, List.setIfInBounds_toArray, List.set_cons_zero, List.set_cons_succ]
      refine wpAnyH_ready (rs := [5, 8]) (by kernel_rfl) (by simp) ?_
      refine AllReadyH.cons (o := { dst := some 145, op := Op.convert 50 9 (Operand.tmp 144), type := 9, pos := "law.go:103", after := #[{ on := 4, ground := Ground.data }, { on := 1, ground := Ground.guard }], guard := some (1, true) }) rfl (fun K hK => ?_) ?_
      · skip
        have hs := hb4.rd.str
        go_simp
        refine hK.out _ _ (by first | exact hn | exact Upd.alloc hn _) (fun hn => ?_)
        clear hK K
        try simp only [Act.put, List.setIfInBounds_toArray, List.set_cons_zero, List.set_cons_succ]
        refine wpAnyH_ready (rs := [8]) (by kernel_rfl) (by simp) ?_
        refine AllReadyH.cons (o := { dst := some 148, op := Op.call { callee := Callee.value (Operand.func 20), args := #[Operand.tmp 147, Operand.const (Value.int IntKind.i64 0)], argTypes := #[23, 3] }, type := 9, pos := "law.go:103", after := #[{ on := 7, ground := Ground.data }, { on := 4, ground := Ground.chain }, { on := 1, ground := Ground.guard }], guard := some (1, true) }) rfl (fun K hK => ?_) AllReadyH.nil
        go_simp
        refine (HR4.out _).mono ?_
        rintro e1 wr ⟨rfl, hnq⟩
        go_wp2_with fail
        have hn := hn.new hnq
        (try have hb4 := hb4.new hnq)
        refine hK.out _ _ (by first | exact hn | exact Upd.alloc hn _) (fun hn => ?_)
        clear hK K
        try simp only [Act.put, List.setIfInBounds_toArray, List.set_cons_zero, List.set_cons_succ]
        refine wpAnyH_take (i := 9) (oi := { dst := some 149, op := Op.binOp BinOp.add 9 (Operand.const (Value.string { data := #[9] })) (Operand.tmp 148) 9, type := 9, pos := "law.go:103", after := #[{ on := 8, ground := Ground.data }, { on := 1, ground := Ground.guard }], guard := some (1, true) }) (v := ?v2x7) rfl (by kernel_rfl) (by kernel_rfl) (by kernel_rfl) (fun _ _ _ h => h) (Or.inl ⟨by rfl, ?y2x7⟩) hn ?r2x7
        case y2x7 => (intro wS hS; go_simp; rw [HJ1.out]; (try go_simp); (try with_reducible rfl))
        try simp only [Act.put, List.setIfInBounds_toArray, List.set_cons_zero, List.set_cons_succ]
        refine wpAnyH_take (i := 10) (oi := { dst := some 150, op := Op.binOp BinOp.neq 9 (Operand.tmp 145) (Operand.tmp 149) 9, type := 4, pos := "law.go:103", after := #[{ on := 5, ground := Ground.data }, { on := 9, ground := Ground.data }, { on := 1, ground := Ground.guard }], guard := some (1, true) }) (v := ?v2x8) rfl (by kernel_rfl) (by kernel_rfl) (by kernel_rfl) (fun _ _ _ h => h) (Or.inl ⟨by rfl, ?y2x8⟩) hn ?r2x8
        case y2x8 => (intro wS hS; (try go_simp); (try with_reducible rfl))
        try simp only [Act.put, List.setIfInBounds_toArray, List.set_cons_zero, List.set_cons_succ]
        refine wpAnyH_take (i := 11) (oi := { dst := some 151, op := Op.move (Operand.tmp 150), type := 4, pos := "law.go:103", after := #[{ on := 10, ground := Ground.data }, { on := 8, ground := Ground.chain }, { on := 1, ground := Ground.guard }], guard := some (1, true) }) (v := ?v2x9) rfl (by kernel_rfl) (by kernel_rfl) (by kernel_rfl) (fun _ _ _ h => h) (Or.inl ⟨by rfl, ?y2x9⟩) hn ?r2x9
        case y2x9 => (intro wS hS; (try go_simp); (try with_reducible rfl))
        try simp only [Act.put, List.setIfInBounds_toArray, List.set_cons_zero, List.set_cons_succ]
        refine wpAnyH_take (i := 12) (oi := { dst := some 152, op := Op.fieldAddr 35 (Operand.tmp 5) 0, type := 0, pos := "law.go:103", after := #[{ on := 11, ground := Ground.guard }], guard := some (11, false) }) (v := ?v2x10) rfl (by kernel_rfl) (by kernel_rfl) (by kernel_rfl) (fun _ _ _ h => h) (Or.inl ⟨by rfl, ?y2x10⟩) hn ?r2x10
        case y2x10 => (intro wS hS; (try go_simp); (try with_reducible rfl))
        try simp only [Act.put, List.setIfInBounds_toArray, List.set_cons_zero, List.set_cons_succ]
        refine wpAnyH_take (i := 13) (oi := { dst := some 153, op := Op.load 33 (Operand.tmp 152), type := 33, pos := "law.go:103", after := #[{ on := 12, ground := Ground.data }, { on := 11, ground := Ground.guard }], guard := some (11, false) }) (v := ?v2x11) rfl (by kernel_rfl) (by kernel_rfl) (by kernel_rfl) (fun _ _ _ h => h) (Or.inl ⟨by rfl, ?y2x11⟩) hn ?r2x11
        case y2x11 => (intro wS hS; have c0 : wS.cell? ⟨g5, 0, none⟩ = some (.slice y1 (lb p).length k1) := cellAt hS.b5 0 rfl; (try go_simp); (try with_reducible rfl))
        try simp only [Act.put, List.setIfInBounds_toArray, List.set_cons_zero, List.set_cons_succ]
        refine wpAnyH_take (i := 16) (oi := { dst := some 156, op := Op.fieldAddr 32 (Operand.tmp 2) 1, type := 0, pos := "law.go:103", after := #[{ on := 11, ground := Ground.guard }], guard := some (11, false) }) (v := ?v2x12) rfl (by kernel_rfl) (by kernel_rfl) (by kernel_rfl) (fun _ _ _ h => h) (Or.inl ⟨by rfl, ?y2x12⟩) hn ?r2x12
        case y2x12 => (intro wS hS; (try go_simp); (try with_reducible rfl))
        try simp only [Act.put, List.setIfInBounds_toArray, List.set_cons_zero, List.set_cons_succ]
        refine wpAnyH_take (i := 17) (oi := { dst := some 157, op := Op.fieldAddr 23 (Operand.tmp 156) 0, type := 0, pos := "law.go:103", after := #[{ on := 16, ground := Ground.data }, { on := 11, ground := Ground.guard }], guard := some (11, false) }) (v := ?v2x13) rfl (by kernel_rfl) (by kernel_rfl) (by kernel_rfl) (fun _ _ _ h => h) (Or.inl ⟨by rfl, ?y2x13⟩) hn ?r2x13
        case y2x13 => (intro wS hS; (try go_simp); (try with_reducible rfl))
        try simp only [Act.put, List.setIfInBounds_toArray, List.set_cons_zero, List.set_cons_succ]
        refine wpAnyH_take (i := 18) (oi := { dst := some 158, op := Op.load 9 (Operand.tmp 157), type := 9, pos := "law.go:103", after := #[{ on := 17, ground := Ground.data }, { on := 11, ground := Ground.guard }], guard := some (11, false) }) (v := ?v2x14) rfl (by kernel_rfl) (by kernel_rfl) (by kernel_rfl) (fun _ _ _ h => h) (Or.inl ⟨by rfl, ?y2x14⟩) hn ?r2x14
        case y2x14 => (intro wS hS; have c0 := hS.tw.atx 1 rfl; (try go_simp); (try with_reducible rfl))
        try simp only [Act.put, List.setIfInBounds_toArray, List.set_cons_zero, List.set_cons_succ]
        refine wpAnyH_ready (rs := [14]) (by kernel_rfl) (by simp) ?_
        refine AllReadyH.cons (o := { dst := some 154, op := Op.call { callee := Callee.value (Operand.func 21), args := #[Operand.const (Value.slice none 0 0), Operand.tmp 153], argTypes := #[50, 33] }, type := 50, pos := "law.go:103", after := #[{ on := 13, ground := Ground.data }, { on := 11, ground := Ground.chain }, { on := 11, ground := Ground.guard }], guard := some (11, false) }) rfl (fun K hK => ?_) AllReadyH.nil
        go_simp
        refine (HP5.out _ hn).mono ?_
        rintro e1 ws ⟨v5, rfl, hb5, ha5⟩
        obtain ⟨hnq, -⟩ := Adds.nil ha5
        obtain ⟨a5, m5, c5, rfl⟩ : ∃ a n c, v5 = .slice a n c := (by obtain ⟨a, c, e⟩ := hb5.rd.shape; exact ⟨a, _, c, e⟩)
        go_wp2_with fail
        have hn := hn.new hnq
        (try have hb4 := hb4.new hnq)
        refine hK.out _ _ (by first | exact hn | exact Upd.alloc hn _) (fun hn => ?_)
        clear hK K
        try simp only [Act.put, List.setIfInBounds_toArray, List.set_cons_zero, List.set_cons_succ]
        refine wpAnyH_ready (rs := [15, 19]) (by kernel_rfl) (by simp) ?_
        refine AllReadyH.cons (o := { dst := some 155, op := Op.convert 50 9 (Operand.tmp 154), type := 9, pos := "law.go:103", after := #[{ on := 14, ground := Ground.data }, { on := 11, ground := Ground.guard }], guard := some (11, false) }) rfl (fun K hK => ?_) ?_
        · skip
          have hs := hb5.rd.str
          go_simp
          refine hK.out _ _ (by first | exact hn | exact Upd.alloc hn _) (fun hn => ?_)
          clear hK K
          try simp only [Act.put, List.setIfInBounds_toArray, List.set_cons_zero, List.set_cons_succ]
          refine wpAnyH_ready (rs := [19]) (by kernel_rfl) (by simp) ?_
          refine AllReadyH.cons (o := { dst := some 159, op := Op.call { callee := Callee.value (Operand.func 22), args := #[Operand.tmp 158, Operand.const (Value.int IntKind.i64 0)], argTypes := #[9, 3] }, type := 9, pos := "law.go:103", after := #[{ on := 18, ground := Ground.data }, { on := 14, ground := Ground.chain }, { on := 11, ground := Ground.guard }], guard := some (11, false) }) rfl (fun K hK => ?_) AllReadyH.nil
          go_simp
          refine (HR5.out _).mono ?_
          rintro e1 wt ⟨rfl, hnq⟩
          go_wp2_with fail
          have hn := hn.new hnq
          (try have hb5 := hb5.new hnq)
          refine hK.out _ _ (by first | exact hn | exact Upd.alloc hn _) (fun hn => ?_)
          clear hK K
          try simp only [Act.put, List.setIfInBounds_toArray, List.set_cons_zero, List.set_cons_succ]
          refine wpAnyH_take (i := 20) (oi := { dst := some 160, op := Op.binOp BinOp.neq 9 (Operand.tmp 155) (Operand.tmp 159) 9, type := 4, pos := "law.go:103", after := #[{ on := 15, ground := Ground.data }, { on := 19, ground := Ground.data }, { on := 11, ground := Ground.guard }], guard := some (11, false) }) (v := ?v2x15) rfl (by kernel_rfl) (by kernel_rfl) (by kernel_rfl) (fun _ _ _ h => h) (Or.inl ⟨by rfl, ?y2x15⟩) hn ?r2x15
          case y2x15 => (intro wS hS; (try go_simp); (try with_reducible rfl))
          try simp only [Act.put, List.setIfInBounds_toArray, List.set_cons_zero, List.set_cons_succ]
          refine wpAnyH_take (i := 21) (oi := { dst := some 161, op := Op.pick (Operand.tmp 151) (Operand.const (Value.bool true)) (Operand.tmp 160), type := 4, pos := "law.go:103", after := #[{ on := 11, ground := Ground.data }, { on := 20, ground := Ground.data }, { on := 1, ground := Ground.guard }], guard := some (1, true) }) (v := ?v2x16) rfl (by kernel_rfl) (by kernel_rfl) (by kernel_rfl) (fun _ _ _ h => h) (Or.inl ⟨by rfl, ?y2x16⟩) hn ?r2x16
          case y2x16 => (intro wS hS; (try go_simp); (try with_reducible rfl))
          try simp only [Act.put, List.setIfInBounds_toArray, List.set_cons_zero, List.set_cons_succ]
          refine wpAnyH_take (i := 22) (oi := { dst := some 162, op := Op.pick (Operand.tmp 141) (Operand.tmp 161) (Operand.const (Value.bool false)), type := 4, pos := "law.go:103", after := #[{ on := 1, ground := Ground.data }, { on := 21, ground := Ground.data }], guard := none }) (v := ?v2x17) rfl (by kernel_rfl) (by kernel_rfl) (by kernel_rfl) (fun _ _ _ h => h) (Or.inl ⟨by rfl, ?y2x17⟩) hn ?r2x17
          case y2x17 => (intro wS hS; (try go_simp); (try with_reducible rfl))
          try simp only [Act.put, List.setIfInBounds_toArray, List.set_cons_zero, List.set_cons_succ]
          refine wpAnyH_take (i := 23) (oi := { dst := some 163, op := Op.move (Operand.tmp 162), type := 4, pos := "law.go:103", after := #[{ on := 22, ground := Ground.data }, { on := 19, ground := Ground.chain }], guard := none }) (v := ?v2x18) rfl (by kernel_rfl) (by kernel_rfl) (by kernel_rfl) (fun _ _ _ h => h) (Or.inl ⟨by rfl, ?y2x18⟩) hn ?r2x18
          case y2x18 => (intro wS hS; (try go_simp); (try with_reducible rfl))
          try simp only [Act.put, List.setIfInBounds_toArray, List.set_cons_zero, List.set_cons_succ]
          refine wpAnyH_take (i := 24) (oi := { dst := some 164, op := Op.move (Operand.tmp 10), type := 4, pos := "law.go:103", after := #[{ on := 23, ground := Ground.guard }], guard := some (23, false) }) (v := ?v2x19) rfl (by kernel_rfl) (by kernel_rfl) (by kernel_rfl) (fun _ _ _ h => h) (Or.inl ⟨by rfl, ?y2x19⟩) hn ?r2x19
          case y2x19 => (intro wS hS; (try go_simp); (try with_reducible rfl))
          try simp only [Act.put, List.setIfInBounds_toArray, List.set_cons_zero, List.set_cons_succ]
          refine wpAnyH_take (i := 25) (oi := { dst := some 165, op := Op.move (Operand.tmp 164), type := 4, pos := "law.go:103", after := #[{ on := 24, ground := Ground.data }, { on := 23, ground := Ground.chain }, { on := 23, ground := Ground.guard }], guard := some (23, false) }) (v := ?v2x20) rfl (by kernel_rfl) (by kernel_rfl) (by kernel_rfl) (fun _ _ _ h => h) (Or.inl ⟨by rfl, ?y2x20⟩) hn ?r2x20
          case y2x20 => (intro wS hS; (try go_simp); (try with_reducible rfl))
          try simp only [Act.put, List.setIfInBounds_toArray, List.set_cons_zero, List.set_cons_succ]
          refine wpAnyH_take (i := 26) (oi := { dst := some 166, op := Op.load 37 (Operand.tmp 6), type := 37, pos := "law.go:103", after := #[{ on := 25, ground := Ground.guard }], guard := some (25, true) }) (v := undef) rfl (by kernel_rfl) (by kernel_rfl) (by kernel_rfl) (fun _ _ _ h => h) (Or.inr ⟨by rfl, rfl⟩) hn ?_
          try simp only [Act.put, List.setIfInBounds_toArray, List.set_cons_zero, List.set_cons_succ]
          refine wpAnyH_take (i := 27) (oi := { dst := some 167, op := Op.call { callee := Callee.value (Operand.func 23), args := #[Operand.tmp 166, Operand.const (Value.slice none 0 0)], argTypes := #[37, 50] }, type := 50, pos := "law.go:103", after := #[{ on := 26, ground := Ground.data }, { on := 25, ground := Ground.chain }, { on := 25, ground := Ground.guard }], guard := some (25, true) }) (v := undef) rfl (by kernel_rfl) (by kernel_rfl) (by kernel_rfl) (fun _ _ _ h => h) (Or.inr ⟨by rfl, rfl⟩) hn ?_
          try simp only [Act.put, List.setIfInBounds_toArray, List.set_cons_zero, List.set_cons_succ]
          refine wpAnyH_take (i := 28) (oi := { dst := some 168, op := Op.convert 50 9 (Operand.tmp 167), type := 9, pos := "law.go:103", after := #[{ on := 27, ground := Ground.data }, { on := 25, ground := Ground.guard }], guard := some (25, true) }) (v := undef) rfl (by kernel_rfl) (by kernel_rfl) (by kernel_rfl) (fun _ _ _ h => h) (Or.inr ⟨by rfl, rfl⟩) hn ?_
          try simp only [Act.put, List.setIfInBounds_toArray, List.set_cons_zero, List.set_cons_succ]
          refine wpAnyH_take (i := 29) (oi := { dst := some 169, op := Op.fieldAddr 32 (Operand.tmp 2) 2, type := 0, pos := "law.go:103", after := #[{ on := 25, ground := Ground.guard }], guard := some (25, true) }) (v := undef) rfl (by kernel_rfl) (by kernel_rfl) (by kernel_rfl) (fun _ _ _ h => h) (Or.inr ⟨by rfl, rfl⟩) hn ?_
          try simp only [Act.put, List.setIfInBounds_toArray, List.set_cons_zero, List.set_cons_succ]
          refine wpAnyH_take (i := 30) (oi := { dst := some 170, op := Op.load 26 (Operand.tmp 169), type := 26, pos := "law.go:103", after := #[{ on := 29, ground := Ground.data }, { on := 25, ground := Ground.guard }], guard := some (25, true) }) (v := undef) rfl (by kernel_rfl) (by kernel_rfl) (by kernel_rfl) (fun _ _ _ h => h) (Or.inr ⟨by rfl, rfl⟩) hn ?_
          try simp only [Act.put, List.setIfInBounds_toArray, List.set_cons_zero, List.set_cons_succ]
          refine wpAnyH_take (i := 31) (oi := { dst := some 171, op := Op.call { callee := Callee.value (Operand.func 24), args := #[Operand.tmp 170, Operand.const (Value.int IntKind.i64 0)], argTypes := #[26, 3] }, type := 9, pos := "law.go:103", after := #[{ on := 30, ground := Ground.data }, { on := 27, ground := Ground.chain }, { on := 25, ground := Ground.guard }], guard := some (25, true) }) (v := undef) rfl (by kernel_rfl) (by kernel_rfl) (by kernel_rfl) (fun _ _ _ h => h) (Or.inr ⟨by rfl, rfl⟩) hn ?_
          try simp only [Act.put, List.setIfInBounds_toArray, List.set_cons_zero, List.set_cons_succ]
          refine wpAnyH_take (i := 32) (oi := { dst := some 172, op := Op.binOp BinOp.neq 9 (Operand.tmp 168) (Operand.tmp 171) 9, type := 4, pos := "law.go:103", after := #[{ on := 28, ground := Ground.data }, { on := 31, ground := Ground.data }, { on := 25, ground := Ground.guard }], guard := some (25, true) }) (v := undef) rfl (by kernel_rfl) (by kernel_rfl) (by kernel_rfl) (fun _ _ _ h => h) (Or.inr ⟨by rfl, rfl⟩) hn ?_
          try simp only [Act.put, List.setIfInBounds_toArray, List.set_cons_zero, List.set_cons_succ]
          refine wpAnyH_take (i := 33) (oi := { dst := some 173, op := Op.pick (Operand.tmp 165) (Operand.tmp 172) (Operand.const (Value.bool false)), type := 4, pos := "law.go:103", after := #[{ on := 25, ground := Ground.data }, { on := 32, ground := Ground.data }, { on := 23, ground := Ground.guard }], guard := some (23, false) }) (v := ?v2x28) rfl (by kernel_rfl) (by kernel_rfl) (by kernel_rfl) (fun _ _ _ h => h) (Or.inl ⟨by rfl, ?y2x28⟩) hn ?r2x28
          case y2x28 => (intro wS hS; (try go_simp); (try with_reducible rfl))
          try simp only [Act.put, List.setIfInBounds_toArray, List.set_cons_zero, List.set_cons_succ]
          refine wpAnyH_take (i := 34) (oi := { dst := some 174, op := Op.pick (Operand.tmp 163) (Operand.const (Value.bool true)) (Operand.tmp 173), type := 4, pos := "law.go:103", after := #[{ on := 23, ground := Ground.data }, { on := 33, ground := Ground.data }], guard := none }) (v := ?v2x29) rfl (by kernel_rfl) (by kernel_rfl) (by kernel_rfl) (fun _ _ _ h => h) (Or.inl ⟨by rfl, ?y2x29⟩) hn ?r2x29
          case y2x29 => (intro wS hS; (try go_simp); (try with_reducible rfl))
          try simp only [Act.put, List.setIfInBounds_toArray, List.set_cons_zero, List.set_cons_succ]
          refine wpAnyH_done (by kernel_rfl) ?_ _
          refine NoPanic.normal ?_
          exact HK.out _ _ _ _ _ _ _ _ _ _ _ _ _ _ _ _ _ _ _ _ _ _ _ _ _ _ _ _ _ _ _ _ _ _ _ hn
        refine AllReadyH.cons (o := { dst := some 159, op := Op.call { callee := Callee.value (Operand.func 22), args := #[Operand.tmp 158, Operand.const (Value.int IntKind.i64 0)], argTypes := #[9, 3] }, type := 9, pos := "law.go:103", after := #[{ on := 18, ground := Ground.data }, { on := 14, ground := Ground.chain }, { on := 11, ground := Ground.guard }], guard := some (11, false) }) rfl (fun K hK => ?_) AllReadyH.nil
        go_simp
        refine (HR5.out _).mono ?_
        rintro e1 wt ⟨rfl, hnq⟩
        go_wp2_with fail
        have hn := hn.new hnq
        (try have hb5 := hb5.new hnq)
        refine hK.out _ _ (by first | exact hn | exact Upd.alloc hn _) (fun hn => ?_)
        clear hK K
        try simp only [Act.put, List.setIfInBounds_toArray, List.set_cons_zero, List.set_cons_succ]
        refine wpAnyH_ready (rs := [15]) (by kernel_rfl) (by simp) ?_
        refine AllReadyH.cons (o := { dst := some 155, op := Op.convert 50 9 (Operand.tmp 154), type := 9, pos := "law.go:103", after := #[{ on := 14, ground := Ground.data }, { on := 11, ground := Ground.guard }], guard := some (11, false) }) rfl (fun K hK => ?_) AllReadyH.nil
        have hs := hb5.rd.str
        go_simp
        refine hK.out _ _ (by first | exact hn | exact Upd.alloc hn _) (fun hn => ?_)
        clear hK K
        try simp only [Act.put, List.setIfInBounds_toArray, List.set_cons_zero, List.set_cons_succ]
        refine wpAnyH_take (i := 20) (oi := { dst := some 160, op := Op.binOp BinOp.neq 9 (Operand.tmp 155) (Operand.tmp 159) 9, type := 4, pos := "law.go:103", after := #[{ on := 15, ground := Ground.data }, { on := 19, ground := Ground.data }, { on := 11, ground := Ground.guard }], guard := some (11, false) }) (v := ?v2x30) rfl (by kernel_rfl) (by kernel_rfl) (by kernel_rfl) (fun _ _ _ h => h) (Or.inl ⟨by rfl, ?y2x30⟩) hn ?r2x30
        case y2x30 => (intro wS hS; (try go_simp); (try with_reducible rfl))
        try simp only [Act.put, List.setIfInBounds_toArray, List.set_cons_zero, List.set_cons_succ]
        refine wpAnyH_take (i := 21) (oi := { dst := some 161, op := Op.pick (Operand.tmp 151) (Operand.const (Value.bool true)) (Operand.tmp 160), type := 4, pos := "law.go:103", after := #[{ on := 11, ground := Ground.data }, { on := 20, ground := Ground.data }, { on := 1, ground := Ground.guard }], guard := some (1, true) }) (v := ?v2x31) rfl (by kernel_rfl) (by kernel_rfl) (by kernel_rfl) (fun _ _ _ h => h) (Or.inl ⟨by rfl, ?y2x31⟩) hn ?r2x31
        case y2x31 => (intro wS hS; (try go_simp); (try with_reducible rfl))
        try simp only [Act.put, List.setIfInBounds_toArray, List.set_cons_zero, List.set_cons_succ]
        refine wpAnyH_take (i := 22) (oi := { dst := some 162, op := Op.pick (Operand.tmp 141) (Operand.tmp 161) (Operand.const (Value.bool false)), type := 4, pos := "law.go:103", after := #[{ on := 1, ground := Ground.data }, { on := 21, ground := Ground.data }], guard := none }) (v := ?v2x32) rfl (by kernel_rfl) (by kernel_rfl) (by kernel_rfl) (fun _ _ _ h => h) (Or.inl ⟨by rfl, ?y2x32⟩) hn ?r2x32
        case y2x32 => (intro wS hS; (try go_simp); (try with_reducible rfl))
        try simp only [Act.put, List.setIfInBounds_toArray, List.set_cons_zero, List.set_cons_succ]
        refine wpAnyH_take (i := 23) (oi := { dst := some 163, op := Op.move (Operand.tmp 162), type := 4, pos := "law.go:103", after := #[{ on := 22, ground := Ground.data }, { on := 19, ground := Ground.chain }], guard := none }) (v := ?v2x33) rfl (by kernel_rfl) (by kernel_rfl) (by kernel_rfl) (fun _ _ _ h => h) (Or.inl ⟨by rfl, ?y2x33⟩) hn ?r2x33
        case y2x33 => (intro wS hS; (try go_simp); (try with_reducible rfl))
        try simp only [Act.put, List.setIfInBounds_toArray, List.set_cons_zero, List.set_cons_succ]
        refine wpAnyH_take (i := 24) (oi := { dst := some 164, op := Op.move (Operand.tmp 10), type := 4, pos := "law.go:103", after := #[{ on := 23, ground := Ground.guard }], guard := some (23, false) }) (v := ?v2x34) rfl (by kernel_rfl) (by kernel_rfl) (by kernel_rfl) (fun _ _ _ h => h) (Or.inl ⟨by rfl, ?y2x34⟩) hn ?r2x34
        case y2x34 => (intro wS hS; (try go_simp); (try with_reducible rfl))
        try simp only [Act.put, List.setIfInBounds_toArray, List.set_cons_zero, List.set_cons_succ]
        refine wpAnyH_take (i := 25) (oi := { dst := some 165, op := Op.move (Operand.tmp 164), type := 4, pos := "law.go:103", after := #[{ on := 24, ground := Ground.data }, { on := 23, ground := Ground.chain }, { on := 23, ground := Ground.guard }], guard := some (23, false) }) (v := ?v2x35) rfl (by kernel_rfl) (by kernel_rfl) (by kernel_rfl) (fun _ _ _ h => h) (Or.inl ⟨by rfl, ?y2x35⟩) hn ?r2x35
        case y2x35 => (intro wS hS; (try go_simp); (try with_reducible rfl))
        try simp only [Act.put, List.setIfInBounds_toArray, List.set_cons_zero, List.set_cons_succ]
        refine wpAnyH_take (i := 26) (oi := { dst := some 166, op := Op.load 37 (Operand.tmp 6), type := 37, pos := "law.go:103", after := #[{ on := 25, ground := Ground.guard }], guard := some (25, true) }) (v := undef) rfl (by kernel_rfl) (by kernel_rfl) (by kernel_rfl) (fun _ _ _ h => h) (Or.inr ⟨by rfl, rfl⟩) hn ?_
        try simp only [Act.put, List.setIfInBounds_toArray, List.set_cons_zero, List.set_cons_succ]
        refine wpAnyH_take (i := 27) (oi := { dst := some 167, op := Op.call { callee := Callee.value (Operand.func 23), args := #[Operand.tmp 166, Operand.const (Value.slice none 0 0)], argTypes := #[37, 50] }, type := 50, pos := "law.go:103", after := #[{ on := 26, ground := Ground.data }, { on := 25, ground := Ground.chain }, { on := 25, ground := Ground.guard }], guard := some (25, true) }) (v := undef) rfl (by kernel_rfl) (by kernel_rfl) (by kernel_rfl) (fun _ _ _ h => h) (Or.inr ⟨by rfl, rfl⟩) hn ?_
        try simp only [Act.put, List.setIfInBounds_toArray, List.set_cons_zero, List.set_cons_succ]
        refine wpAnyH_take (i := 28) (oi := { dst := some 168, op := Op.convert 50 9 (Operand.tmp 167), type := 9, pos := "law.go:103", after := #[{ on := 27, ground := Ground.data }, { on := 25, ground := Ground.guard }], guard := some (25, true) }) (v := undef) rfl (by kernel_rfl) (by kernel_rfl) (by kernel_rfl) (fun _ _ _ h => h) (Or.inr ⟨by rfl, rfl⟩) hn ?_
        try simp only [Act.put, List.setIfInBounds_toArray, List.set_cons_zero, List.set_cons_succ]
        refine wpAnyH_take (i := 29) (oi := { dst := some 169, op := Op.fieldAddr 32 (Operand.tmp 2) 2, type := 0, pos := "law.go:103", after := #[{ on := 25, ground := Ground.guard }], guard := some (25, true) }) (v := undef) rfl (by kernel_rfl) (by kernel_rfl) (by kernel_rfl) (fun _ _ _ h => h) (Or.inr ⟨by rfl, rfl⟩) hn ?_
        try simp only [Act.put, List.setIfInBounds_toArray, List.set_cons_zero, List.set_cons_succ]
        refine wpAnyH_take (i := 30) (oi := { dst := some 170, op := Op.load 26 (Operand.tmp 169), type := 26, pos := "law.go:103", after := #[{ on := 29, ground := Ground.data }, { on := 25, ground := Ground.guard }], guard := some (25, true) }) (v := undef) rfl (by kernel_rfl) (by kernel_rfl) (by kernel_rfl) (fun _ _ _ h => h) (Or.inr ⟨by rfl, rfl⟩) hn ?_
        try simp only [Act.put, List.setIfInBounds_toArray, List.set_cons_zero, List.set_cons_succ]
        refine wpAnyH_take (i := 31) (oi := { dst := some 171, op := Op.call { callee := Callee.value (Operand.func 24), args := #[Operand.tmp 170, Operand.const (Value.int IntKind.i64 0)], argTypes := #[26, 3] }, type := 9, pos := "law.go:103", after := #[{ on := 30, ground := Ground.data }, { on := 27, ground := Ground.chain }, { on := 25, ground := Ground.guard }], guard := some (25, true) }) (v := undef) rfl (by kernel_rfl) (by kernel_rfl) (by kernel_rfl) (fun _ _ _ h => h) (Or.inr ⟨by rfl, rfl⟩) hn ?_
        try simp only [Act.put, List.setIfInBounds_toArray, List.set_cons_zero, List.set_cons_succ]
        refine wpAnyH_take (i := 32) (oi := { dst := some 172, op := Op.binOp BinOp.neq 9 (Operand.tmp 168) (Operand.tmp 171) 9, type := 4, pos := "law.go:103", after := #[{ on := 28, ground := Ground.data }, { on := 31, ground := Ground.data }, { on := 25, ground := Ground.guard }], guard := some (25, true) }) (v := undef) rfl (by kernel_rfl) (by kernel_rfl) (by kernel_rfl) (fun _ _ _ h => h) (Or.inr ⟨by rfl, rfl⟩) hn ?_
        try simp only [Act.put, List.setIfInBounds_toArray, List.set_cons_zero, List.set_cons_succ]
        refine wpAnyH_take (i := 33) (oi := { dst := some 173, op := Op.pick (Operand.tmp 165) (Operand.tmp 172) (Operand.const (Value.bool false)), type := 4, pos := "law.go:103", after := #[{ on := 25, ground := Ground.data }, { on := 32, ground := Ground.data }, { on := 23, ground := Ground.guard }], guard := some (23, false) }) (v := ?v2x43) rfl (by kernel_rfl) (by kernel_rfl) (by kernel_rfl) (fun _ _ _ h => h) (Or.inl ⟨by rfl, ?y2x43⟩) hn ?r2x43
        case y2x43 => (intro wS hS; (try go_simp); (try with_reducible rfl))
        try simp only [Act.put, List.setIfInBounds_toArray, List.set_cons_zero, List.set_cons_succ]
        refine wpAnyH_take (i := 34) (oi := { dst := some 174, op := Op.pick (Operand.tmp 163) (Operand.const (Value.bool true)) (Operand.tmp 173), type := 4, pos := "law.go:103", after := #[{ on := 23, ground := Ground.data }, { on := 33, ground := Ground.data }], guard := none }) (v := ?v2x44) rfl (by kernel_rfl) (by kernel_rfl) (by kernel_rfl) (fun _ _ _ h => h) (Or.inl ⟨by rfl, ?y2x44⟩) hn ?r2x44
        case y2x44 => (intro wS hS; (try go_simp); (try with_reducible rfl))
        try simp only [Act.put, List.setIfInBounds_toArray, List.set_cons_zero, List.set_cons_succ]
        refine wpAnyH_done (by kernel_rfl) ?_ _
        refine NoPanic.normal ?_
        exact HK.out _ _ _ _ _ _ _ _ _ _ _ _ _ _ _ _ _ _ _ _ _ _ _ _ _ _ _ _ _ _ _ _ _ _ _ hn
      refine AllReadyH.cons (o := { dst := some 148, op := Op.call { callee := Callee.value (Operand.func 20), args := #[Operand.tmp 147, Operand.const (Value.int IntKind.i64 0)], argTypes := #[23, 3] }, type := 9, pos := "law.go:103", after := #[{ on := 7, ground := Ground.data }, { on := 4, ground := Ground.chain }, { on := 1, ground := Ground.guard }], guard := some (1, true) }) rfl (fun K hK => ?_) AllReadyH.nil
      go_simp
      refine (HR4.out _).mono ?_
      rintro e1 wr ⟨rfl, hnq⟩
      go_wp2_with fail
      have hn := hn.new hnq
      (try have hb4 := hb4.new hnq)
      refine hK.out _ _ (by first | exact hn | exact Upd.alloc hn _) (fun hn => ?_)
      clear hK K
      try simp only [Act.put, List.setIfInBounds_toArray, List.set_cons_zero, List.set_cons_succ]
      refine wpAnyH_take (i := 9) (oi := { dst := some 149, op := Op.binOp BinOp.add 9 (Operand.const (Value.string { data := #[9] })) (Operand.tmp 148) 9, type := 9, pos := "law.go:103", after := #[{ on := 8, ground := Ground.data }, { on := 1, ground := Ground.guard }], guard := some (1, true) }) (v := ?v2x45) rfl (by kernel_rfl) (by kernel_rfl) (by kernel_rfl) (fun _ _ _ h => h) (Or.inl ⟨by rfl, ?y2x45⟩) hn ?r2x45
      case y2x45 => (intro wS hS; go_simp; rw [HJ1.out]; (try go_simp); (try with_reducible rfl))
      try simp only [Act.put, List.setIfInBounds_toArray, List.set_cons_zero, List.set_cons_succ]
      refine wpAnyH_ready (rs := [5]) (by kernel_rfl) (by simp) ?_
      refine AllReadyH.cons (o := { dst := some 145, op := Op.convert 50 9 (Operand.tmp 144), type := 9, pos := "law.go:103", after := #[{ on := 4, ground := Ground.data }, { on := 1, ground := Ground.guard }], guard := some (1, true) }) rfl (fun K hK => ?_) AllReadyH.nil
      have hs := hb4.rd.str
      go_simp
      refine hK.out _ _ (by first | exact hn | exact Upd.alloc hn _) (fun hn => ?_)
      clear hK K
      try simp only [Act.put, List.setIfInBounds_toArray, List.set_cons_zero, List.set_cons_succ]
      refine wpAnyH_take (i := 10) (oi := { dst := some 150, op := Op.binOp BinOp.neq 9 (Operand.tmp 145) (Operand.tmp 149) 9, type := 4, pos := "law.go:103", after := #[{ on := 5, ground := Ground.data }, { on := 9, ground := Ground.data }, { on := 1, ground := Ground.guard }], guard := some (1, true) }) (v := ?v2x46) rfl (by kernel_rfl) (by kernel_rfl) (by kernel_rfl) (fun _ _ _ h => h) (Or.inl ⟨by rfl, ?y2x46⟩) hn ?r2x46
      case y2x46 => (intro wS hS; (try go_simp); (try with_reducible rfl))
      try simp only [Act.put, List.setIfInBounds_toArray, List.set_cons_zero, List.set_cons_succ]
      refine wpAnyH_take (i := 11) (oi := { dst := some 151, op := Op.move (Operand.tmp 150), type := 4, pos := "law.go:103", after := #[{ on := 10, ground := Ground.data }, { on := 8, ground := Ground.chain }, { on := 1, ground := Ground.guard }], guard := some (1, true) }) (v := ?v2x47) rfl (by kernel_rfl) (by kernel_rfl) (by kernel_rfl) (fun _ _ _ h => h) (Or.inl ⟨by rfl, ?y2x47⟩) hn ?r2x47
      case y2x47 => (intro wS hS; (try go_simp); (try with_reducible rfl))
      try simp only [Act.put, List.setIfInBounds_toArray, List.set_cons_zero, List.set_cons_succ]
      refine wpAnyH_take (i := 12) (oi := { dst := some 152, op := Op.fieldAddr 35 (Operand.tmp 5) 0, type := 0, pos := "law.go:103", after := #[{ on := 11, ground := Ground.guard }], guard := some (11, false) }) (v := ?v2x48) rfl (by kernel_rfl) (by kernel_rfl) (by kernel_rfl) (fun _ _ _ h => h) (Or.inl ⟨by rfl, ?y2x48⟩) hn ?r2x48
      case y2x48 => (intro wS hS; (try go_simp); (try with_reducible rfl))
      try simp only [Act.put, List.setIfInBounds_toArray, List.set_cons_zero, List.set_cons_succ]
      refine wpAnyH_take (i := 13) (oi := { dst := some 153, op := Op.load 33 (Operand.tmp 152), type := 33, pos := "law.go:103", after := #[{ on := 12, ground := Ground.data }, { on := 11, ground := Ground.guard }], guard := some (11, false) }) (v := ?v2x49) rfl (by kernel_rfl) (by kernel_rfl) (by kernel_rfl) (fun _ _ _ h => h) (Or.inl ⟨by rfl, ?y2x49⟩) hn ?r2x49
      case y2x49 => (intro wS hS; have c0 : wS.cell? ⟨g5, 0, none⟩ = some (.slice y1 (lb p).length k1) := cellAt hS.b5 0 rfl; (try go_simp); (try with_reducible rfl))
      try simp only [Act.put, List.setIfInBounds_toArray, List.set_cons_zero, List.set_cons_succ]
      refine wpAnyH_take (i := 16) (oi := { dst := some 156, op := Op.fieldAddr 32 (Operand.tmp 2) 1, type := 0, pos := "law.go:103", after := #[{ on := 11, ground := Ground.guard }], guard := some (11, false) }) (v := ?v2x50) rfl (by kernel_rfl) (by kernel_rfl) (by kernel_rfl) (fun _ _ _ h => h) (Or.inl ⟨by rfl, ?y2x50⟩) hn ?r2x50
      case y2x50 => (intro wS hS; (try go_simp); (try with_reducible rfl))
      try simp only [Act.put, List.setIfInBounds_toArray, List.set_cons_zero, List.set_cons_succ]
      refine wpAnyH_take (i := 17) (oi := { dst := some 157, op := Op.fieldAddr 23 (Operand.tmp 156) 0, type := 0, pos := "law.go:103", after := #[{ on := 16, ground := Ground.data }, { on := 11, ground := Ground.guard }], guard := some (11, false) }) (v := ?v2x51) rfl (by kernel_rfl) (by kernel_rfl) (by kernel_rfl) (fun _ _ _ h => h) (Or.inl ⟨by rfl, ?y2x51⟩) hn ?r2x51
      case y2x51 => (intro wS hS; (try go_simp); (try with_reducible rfl))
      try simp only [Act.put, List.setIfInBounds_toArray, List.set_cons_zero, List.set_cons_succ]
      refine wpAnyH_take (i := 18) (oi := { dst := some 158, op := Op.load 9 (Operand.tmp 157), type := 9, pos := "law.go:103", after := #[{ on := 17, ground := Ground.data }, { on := 11, ground := Ground.guard }], guard := some (11, false) }) (v := ?v2x52) rfl (by kernel_rfl) (by kernel_rfl) (by kernel_rfl) (fun _ _ _ h => h) (Or.inl ⟨by rfl, ?y2x52⟩) hn ?r2x52
      case y2x52 => (intro wS hS; have c0 := hS.tw.atx 1 rfl; (try go_simp); (try with_reducible rfl))
      try simp only [Act.put, List.setIfInBounds_toArray, List.set_cons_zero, List.set_cons_succ]
      refine wpAnyH_ready (rs := [14]) (by kernel_rfl) (by simp) ?_
      refine AllReadyH.cons (o := { dst := some 154, op := Op.call { callee := Callee.value (Operand.func 21), args := #[Operand.const (Value.slice none 0 0), Operand.tmp 153], argTypes := #[50, 33] }, type := 50, pos := "law.go:103", after := #[{ on := 13, ground := Ground.data }, { on := 11, ground := Ground.chain }, { on := 11, ground := Ground.guard }], guard := some (11, false) }) rfl (fun K hK => ?_) AllReadyH.nil
      go_simp
      refine (HP5.out _ hn).mono ?_
      rintro e1 ws ⟨v5, rfl, hb5, ha5⟩
      obtain ⟨hnq, -⟩ := Adds.nil ha5
      obtain ⟨a5, m5, c5, rfl⟩ : ∃ a n c, v5 = .slice a n c := (by obtain ⟨a, c, e⟩ := hb5.rd.shape; exact ⟨a, _, c, e⟩)
      go_wp2_with fail
      have hn := hn.new hnq
      (try have hb4 := hb4.new hnq)
      refine hK.out _ _ (by first | exact hn | exact Upd.alloc hn _) (fun hn => ?_)
      clear hK K
      try simp only [Act.put, List.setIfInBounds_toArray, List.set_cons_zero, List.set_cons_succ]
      refine wpAnyH_ready (rs := [15, 19]) (by kernel_rfl) (by simp) ?_
      refine AllReadyH.cons (o := { dst := some 155, op := Op.convert 50 9 (Operand.tmp 154), type := 9, pos := "law.go:103", after := #[{ on := 14, ground := Ground.data }, { on := 11, ground := Ground.guard }], guard := some (11, false) }) rfl (fun K hK => ?_) ?_
      · skip
        have hs := hb5.rd.str
        go_simp
        refine hK.out _ _ (by first | exact hn | exact Upd.alloc hn _) (fun hn => ?_)
        clear hK K
        try simp only [Act.put, List.setIfInBounds_toArray, List.set_cons_zero, List.set_cons_succ]
        refine wpAnyH_ready (rs := [19]) (by kernel_rfl) (by simp) ?_
        refine AllReadyH.cons (o := { dst := some 159, op := Op.call { callee := Callee.value (Operand.func 22), args := #[Operand.tmp 158, Operand.const (Value.int IntKind.i64 0)], argTypes := #[9, 3] }, type := 9, pos := "law.go:103", after := #[{ on := 18, ground := Ground.data }, { on := 14, ground := Ground.chain }, { on := 11, ground := Ground.guard }], guard := some (11, false) }) rfl (fun K hK => ?_) AllReadyH.nil
        go_simp
        refine (HR5.out _).mono ?_
        rintro e1 wt ⟨rfl, hnq⟩
        go_wp2_with fail
        have hn := hn.new hnq
        (try have hb5 := hb5.new hnq)
        refine hK.out _ _ (by first | exact hn | exact Upd.alloc hn _) (fun hn => ?_)
        clear hK K
        try simp only [Act.put, List.setIfInBounds_toArray, List.set_cons_zero, List.set_cons_succ]
        refine wpAnyH_take (i := 20) (oi := { dst := some 160, op := Op.binOp BinOp.neq 9 (Operand.tmp 155) (Operand.tmp 159) 9, type := 4, pos := "law.go:103", after := #[{ on := 15, ground := Ground.data }, { on := 19, ground := Ground.data }, { on := 11, ground := Ground.guard }], guard := some (11, false) }) (v := ?v2x53) rfl (by kernel_rfl) (by kernel_rfl) (by kernel_rfl) (fun _ _ _ h => h) (Or.inl ⟨by rfl, ?y2x53⟩) hn ?r2x53
        case y2x53 => (intro wS hS; (try go_simp); (try with_reducible rfl))
        try simp only [Act.put, List.setIfInBounds_toArray, List.set_cons_zero, List.set_cons_succ]
        refine wpAnyH_take (i := 21) (oi := { dst := some 161, op := Op.pick (Operand.tmp 151) (Operand.const (Value.bool true)) (Operand.tmp 160), type := 4, pos := "law.go:103", after := #[{ on := 11, ground := Ground.data }, { on := 20, ground := Ground.data }, { on := 1, ground := Ground.guard }], guard := some (1, true) }) (v := ?v2x54) rfl (by kernel_rfl) (by kernel_rfl) (by kernel_rfl) (fun _ _ _ h => h) (Or.inl ⟨by rfl, ?y2x54⟩) hn ?r2x54
        case y2x54 => (intro wS hS; (try go_simp); (try with_reducible rfl))
        try simp only [Act.put, List.setIfInBounds_toArray, List.set_cons_zero, List.set_cons_succ]
        refine wpAnyH_take (i := 22) (oi := { dst := some 162, op := Op.pick (Operand.tmp 141) (Operand.tmp 161) (Operand.const (Value.bool false)), type := 4, pos := "law.go:103", after := #[{ on := 1, ground := Ground.data }, { on := 21, ground := Ground.data }], guard := none }) (v := ?v2x55) rfl (by kernel_rfl) (by kernel_rfl) (by kernel_rfl) (fun _ _ _ h => h) (Or.inl ⟨by rfl, ?y2x55⟩) hn ?r2x55
        case y2x55 => (intro wS hS; (try go_simp); (try with_reducible rfl))
        try simp only [Act.put, List.setIfInBounds_toArray, List.set_cons_zero, List.set_cons_succ]
        refine wpAnyH_take (i := 23) (oi := { dst := some 163, op := Op.move (Operand.tmp 162), type := 4, pos := "law.go:103", after := #[{ on := 22, ground := Ground.data }, { on := 19, ground := Ground.chain }], guard := none }) (v := ?v2x56) rfl (by kernel_rfl) (by kernel_rfl) (by kernel_rfl) (fun _ _ _ h => h) (Or.inl ⟨by rfl, ?y2x56⟩) hn ?r2x56
        case y2x56 => (intro wS hS; (try go_simp); (try with_reducible rfl))
        try simp only [Act.put, List.setIfInBounds_toArray, List.set_cons_zero, List.set_cons_succ]
        refine wpAnyH_take (i := 24) (oi := { dst := some 164, op := Op.move (Operand.tmp 10), type := 4, pos := "law.go:103", after := #[{ on := 23, ground := Ground.guard }], guard := some (23, false) }) (v := ?v2x57) rfl (by kernel_rfl) (by kernel_rfl) (by kernel_rfl) (fun _ _ _ h => h) (Or.inl ⟨by rfl, ?y2x57⟩) hn ?r2x57
        case y2x57 => (intro wS hS; (try go_simp); (try with_reducible rfl))
        try simp only [Act.put, List.setIfInBounds_toArray, List.set_cons_zero, List.set_cons_succ]
        refine wpAnyH_take (i := 25) (oi := { dst := some 165, op := Op.move (Operand.tmp 164), type := 4, pos := "law.go:103", after := #[{ on := 24, ground := Ground.data }, { on := 23, ground := Ground.chain }, { on := 23, ground := Ground.guard }], guard := some (23, false) }) (v := ?v2x58) rfl (by kernel_rfl) (by kernel_rfl) (by kernel_rfl) (fun _ _ _ h => h) (Or.inl ⟨by rfl, ?y2x58⟩) hn ?r2x58
        case y2x58 => (intro wS hS; (try go_simp); (try with_reducible rfl))
        try simp only [Act.put, List.setIfInBounds_toArray, List.set_cons_zero, List.set_cons_succ]
        refine wpAnyH_take (i := 26) (oi := { dst := some 166, op := Op.load 37 (Operand.tmp 6), type := 37, pos := "law.go:103", after := #[{ on := 25, ground := Ground.guard }], guard := some (25, true) }) (v := undef) rfl (by kernel_rfl) (by kernel_rfl) (by kernel_rfl) (fun _ _ _ h => h) (Or.inr ⟨by rfl, rfl⟩) hn ?_
        try simp only [Act.put, List.setIfInBounds_toArray, List.set_cons_zero, List.set_cons_succ]
        refine wpAnyH_take (i := 27) (oi := { dst := some 167, op := Op.call { callee := Callee.value (Operand.func 23), args := #[Operand.tmp 166, Operand.const (Value.slice none 0 0)], argTypes := #[37, 50] }, type := 50, pos := "law.go:103", after := #[{ on := 26, ground := Ground.data }, { on := 25, ground := Ground.chain }, { on := 25, ground := Ground.guard }], guard := some (25, true) }) (v := undef) rfl (by kernel_rfl) (by kernel_rfl) (by kernel_rfl) (fun _ _ _ h => h) (Or.inr ⟨by rfl, rfl⟩) hn ?_
        try simp only [Act.put, List.setIfInBounds_toArray, List.set_cons_zero, List.set_cons_succ]
        refine wpAnyH_take (i := 28) (oi := { dst := some 168, op := Op.convert 50 9 (Operand.tmp 167), type := 9, pos := "law.go:103", after := #[{ on := 27, ground := Ground.data }, { on := 25, ground := Ground.guard }], guard := some (25, true) }) (v := undef) rfl (by kernel_rfl) (by kernel_rfl) (by kernel_rfl) (fun _ _ _ h => h) (Or.inr ⟨by rfl, rfl⟩) hn ?_
        try simp only [Act.put, List.setIfInBounds_toArray, List.set_cons_zero, List.set_cons_succ]
        refine wpAnyH_take (i := 29) (oi := { dst := some 169, op := Op.fieldAddr 32 (Operand.tmp 2) 2, type := 0, pos := "law.go:103", after := #[{ on := 25, ground := Ground.guard }], guard := some (25, true) }) (v := undef) rfl (by kernel_rfl) (by kernel_rfl) (by kernel_rfl) (fun _ _ _ h => h) (Or.inr ⟨by rfl, rfl⟩) hn ?_
        try simp only [Act.put, List.setIfInBounds_toArray, List.set_cons_zero, List.set_cons_succ]
        refine wpAnyH_take (i := 30) (oi := { dst := some 170, op := Op.load 26 (Operand.tmp 169), type := 26, pos := "law.go:103", after := #[{ on := 29, ground := Ground.data }, { on := 25, ground := Ground.guard }], guard := some (25, true) }) (v := undef) rfl (by kernel_rfl) (by kernel_rfl) (by kernel_rfl) (fun _ _ _ h => h) (Or.inr ⟨by rfl, rfl⟩) hn ?_
        try simp only [Act.put, List.setIfInBounds_toArray, List.set_cons_zero, List.set_cons_succ]
        refine wpAnyH_take (i := 31) (oi := { dst := some 171, op := Op.call { callee := Callee.value (Operand.func 24), args := #[Operand.tmp 170, Operand.const (Value.int IntKind.i64 0)], argTypes := #[26, 3] }, type := 9, pos := "law.go:103", after := #[{ on := 30, ground := Ground.data }, { on := 27, ground := Ground.chain }, { on := 25, ground := Ground.guard }], guard := some (25, true) }) (v := undef) rfl (by kernel_rfl) (by kernel_rfl) (by kernel_rfl) (fun _ _ _ h => h) (Or.inr ⟨by rfl, rfl⟩) hn ?_
        try simp only [Act.put, List.setIfInBounds_toArray, List.set_cons_zero, List.set_cons_succ]
        refine wpAnyH_take (i := 32) (oi := { dst := some 172, op := Op.binOp BinOp.neq 9 (Operand.tmp 168) (Operand.tmp 171) 9, type := 4, pos := "law.go:103", after := #[{ on := 28, ground := Ground.data }, { on := 31, ground := Ground.data }, { on := 25, ground := Ground.guard }], guard := some (25, true) }) (v := undef) rfl (by kernel_rfl) (by kernel_rfl) (by kernel_rfl) (fun _ _ _ h => h) (Or.inr ⟨by rfl, rfl⟩) hn ?_
        try simp only [Act.put, List.setIfInBounds_toArray, List.set_cons_zero, List.set_cons_succ]
        refine wpAnyH_take (i := 33) (oi := { dst := some 173, op := Op.pick (Operand.tmp 165) (Operand.tmp 172) (Operand.const (Value.bool false)), type := 4, pos := "law.go:103", after := #[{ on := 25, ground := Ground.data }, { on := 32, ground := Ground.data }, { on := 23, ground := Ground.guard }], guard := some (23, false) }) (v := ?v2x66) rfl (by kernel_rfl) (by kernel_rfl) (by kernel_rfl) (fun _ _ _ h => h) (Or.inl ⟨by rfl, ?y2x66⟩) hn ?r2x66
        case y2x66 => (intro wS hS; (try go_simp); (try with_reducible rfl))
        try simp only [Act.put, List.setIfInBounds_toArray, List.set_cons_zero, List.set_cons_succ]
        refine wpAnyH_take (i := 34) (oi := { dst := some 174, op := Op.pick (Operand.tmp 163) (Operand.const (Value.bool true)) (Operand.tmp 173), type := 4, pos := "law.go:103", after := #[{ on := 23, ground := Ground.data }, { on := 33, ground := Ground.data }], guard := none }) (v := ?v2x67) rfl (by kernel_rfl) (by kernel_rfl) (by kernel_rfl) (fun _ _ _ h => h) (Or.inl ⟨by rfl, ?y2x67⟩) hn ?r2x67
        case y2x67 => (intro wS hS; (try go_simp); (try with_reducible rfl))
        try simp only [Act.put, List.setIfInBounds_toArray, List.set_cons_zero, List.set_cons_succ]
        refine wpAnyH_done (by kernel_rfl) ?_ _
        refine NoPanic.normal ?_
        exact HK.out _ _ _ _ _ _ _ _ _ _ _ _ _ _ _ _ _ _ _ _ _ _ _ _ _ _ _ _ _ _ _ _ _ _ _ hn
      refine AllReadyH.cons (o := { dst := some 159, op := Op.call { callee := Callee.value (Operand.func 22), args := #[Operand.tmp 158, Operand.const (Value.int IntKind.i64 0)], argTypes := #[9, 3] }, type := 9, pos := "law.go:103", after := #[{ on := 18, ground := Ground.data }, { on := 14, ground := Ground.chain }, { on := 11, ground := Ground.guard }], guard := some (11, false) }) rfl (fun K hK => ?_) AllReadyH.nil
      go_simp
      refine (HR5.out _).mono ?_
      rintro e1 wt ⟨rfl, hnq⟩
      go_wp2_with fail
      have hn := hn.new hnq
      (try have hb5 := hb5.new hnq)
      refine hK.out _ _ (by first | exact hn | exact Upd.alloc hn _) (fun hn => ?_)
      clear hK K
      try simp only [Act.put, List.setIfInBounds_toArray, List.set_cons_zero, List.set_cons_succ]
      refine wpAnyH_ready (rs := [15]) (by kernel_rfl) (by simp) ?_
      refine AllReadyH.cons (o := { dst := some 155, op := Op.convert 50 9 (Operand.tmp 154), type := 9, pos := "law.go:103", after := #[{ on := 14, ground := Ground.data }, { on := 11, ground := Ground.guard }], guard := some (11, false) }) rfl (fun K hK => ?_) AllReadyH.nil
      have hs := hb5.rd.str
      go_simp
      refine hK.out _ _ (by first | exact hn | exact Upd.alloc hn _) (fun hn => ?_)
      clear hK K
      try simp only [Act.put, List.setIfInBounds_toArray, List.set_cons_zero, List.set_cons_succ]
      refine wpAnyH_take (i := 20) (oi := { dst := some 160, op := Op.binOp BinOp.neq 9 (Operand.tmp 155) (Operand.tmp 159) 9, type := 4, pos := "law.go:103", after := #[{ on := 15, ground := Ground.data }, { on := 19, ground := Ground.data }, { on := 11, ground := Ground.guard }], guard := some (11, false) }) (v := ?v2x68) rfl (by kernel_rfl) (by kernel_rfl) (by kernel_rfl) (fun _ _ _ h => h) (Or.inl ⟨by rfl, ?y2x68⟩) hn ?r2x68
      case y2x68 => (intro wS hS; (try go_simp); (try with_reducible rfl))
      try simp only [Act.put, List.setIfInBounds_toArray, List.set_cons_zero, List.set_cons_succ]
      refine wpAnyH_take (i := 21) (oi := { dst := some 161, op := Op.pick (Operand.tmp 151) (Operand.const (Value.bool true)) (Operand.tmp 160), type := 4, pos := "law.go:103", after := #[{ on := 11, ground := Ground.data }, { on := 20, ground := Ground.data }, { on := 1, ground := Ground.guard }], guard := some (1, true) }) (v := ?v2x69) rfl (by kernel_rfl) (by kernel_rfl) (by kernel_rfl) (fun _ _ _ h => h) (Or.inl ⟨by rfl, ?y2x69⟩) hn ?r2x69
      case y2x69 => (intro wS hS; (try go_simp); (try with_reducible rfl))
      try simp only [Act.put, List.setIfInBounds_toArray, List.set_cons_zero, List.set_cons_succ]
      refine wpAnyH_take (i := 22) (oi := { dst := some 162, op := Op.pick (Operand.tmp 141) (Operand.tmp 161) (Operand.const (Value.bool false)), type := 4, pos := "law.go:103", after := #[{ on := 1, ground := Ground.data }, { on := 21, ground := Ground.data }], guard := none }) (v := ?v2x70) rfl (by kernel_rfl) (by kernel_rfl) (by kernel_rfl) (fun _ _ _ h => h) (Or.inl ⟨by rfl, ?y2x70⟩) hn ?r2x70
      case y2x70 => (intro wS hS; (try go_simp); (try with_reducible rfl))
      try simp only [Act.put, List.setIfInBounds_toArray, List.set_cons_zero, List.set_cons_succ]
      refine wpAnyH_take (i := 23) (oi := { dst := some 163, op := Op.move (Operand.tmp 162), type := 4, pos := "law.go:103", after := #[{ on := 22, ground := Ground.data }, { on := 19, ground := Ground.chain }], guard := none }) (v := ?v2x71) rfl (by kernel_rfl) (by kernel_rfl) (by kernel_rfl) (fun _ _ _ h => h) (Or.inl ⟨by rfl, ?y2x71⟩) hn ?r2x71
      case y2x71 => (intro wS hS; (try go_simp); (try with_reducible rfl))
      try simp only [Act.put, List.setIfInBounds_toArray, List.set_cons_zero, List.set_cons_succ]
      refine wpAnyH_take (i := 24) (oi := { dst := some 164, op := Op.move (Operand.tmp 10), type := 4, pos := "law.go:103", after := #[{ on := 23, ground := Ground.guard }], guard := some (23, false) }) (v := ?v2x72) rfl (by kernel_rfl) (by kernel_rfl) (by kernel_rfl) (fun _ _ _ h => h) (Or.inl ⟨by rfl, ?y2x72⟩) hn ?r2x72
      case y2x72 => (intro wS hS; (try go_simp); (try with_reducible rfl))
      try simp only [Act.put, List.setIfInBounds_toArray, List.set_cons_zero, List.set_cons_succ]
      refine wpAnyH_take (i := 25) (oi := { dst := some 165, op := Op.move (Operand.tmp 164), type := 4, pos := "law.go:103", after := #[{ on := 24, ground := Ground.data }, { on := 23, ground := Ground.chain }, { on := 23, ground := Ground.guard }], guard := some (23, false) }) (v := ?v2x73) rfl (by kernel_rfl) (by kernel_rfl) (by kernel_rfl) (fun _ _ _ h => h) (Or.inl ⟨by rfl, ?y2x73⟩) hn ?r2x73
      case y2x73 => (intro wS hS; (try go_simp); (try with_reducible rfl))
      try simp only [Act.put, List.setIfInBounds_toArray, List.set_cons_zero, List.set_cons_succ]
      refine wpAnyH_take (i := 26) (oi := { dst := some 166, op := Op.load 37 (Operand.tmp 6), type := 37, pos := "law.go:103", after := #[{ on := 25, ground := Ground.guard }], guard := some (25, true) }) (v := undef) rfl (by kernel_rfl) (by kernel_rfl) (by kernel_rfl) (fun _ _ _ h => h) (Or.inr ⟨by rfl, rfl⟩) hn ?_
      try simp only [Act.put, List.setIfInBounds_toArray, List.set_cons_zero, List.set_cons_succ]
      refine wpAnyH_take (i := 27) (oi := { dst := some 167, op := Op.call { callee := Callee.value (Operand.func 23), args := #[Operand.tmp 166, Operand.const (Value.slice none 0 0)], argTypes := #[37, 50] }, type := 50, pos := "law.go:103", after := #[{ on := 26, ground := Ground.data }, { on := 25, ground := Ground.chain }, { on := 25, ground := Ground.guard }], guard := some (25, true) }) (v := undef) rfl (by kernel_rfl) (by kernel_rfl) (by kernel_rfl) (fun _ _ _ h => h) (Or.inr ⟨by rfl, rfl⟩) hn ?_
      try simp only [Act.put, List.setIfInBounds_toArray, List.set_cons_zero, List.set_cons_succ]
      refine wpAnyH_take (i := 28) (oi := { dst := some 168, op := Op.convert 50 9 (Operand.tmp 167), type := 9, pos := "law.go:103", after := #[{ on := 27, ground := Ground.data }, { on := 25, ground := Ground.guard }], guard := some (25, true) }) (v := undef) rfl (by kernel_rfl) (by kernel_rfl) (by kernel_rfl) (fun _ _ _ h => h) (Or.inr ⟨by rfl, rfl⟩) hn ?_
      try simp only [Act.put, List.setIfInBounds_toArray, List.set_cons_zero, List.set_cons_succ]
      refine wpAnyH_take (i := 29) (oi := { dst := some 169, op := Op.fieldAddr 32 (Operand.tmp 2) 2, type := 0, pos := "law.go:103", after := #[{ on := 25, ground := Ground.guard }], guard := some (25, true) }) (v := undef) rfl (by kernel_rfl) (by kernel_rfl) (by kernel_rfl) (fun _ _ _ h => h) (Or.inr ⟨by rfl, rfl⟩) hn ?_
      try simp only [Act.put, List.setIfInBounds_toArray, List.set_cons_zero, List.set_cons_succ]
      refine wpAnyH_take (i := 30) (oi := { dst := some 170, op := Op.load 26 (Operand.tmp 169), type := 26, pos := "law.go:103", after := #[{ on := 29, ground := Ground.data }, { on := 25, ground := Ground.guard }], guard := some (25, true) }) (v := undef) rfl (by kernel_rfl) (by kernel_rfl) (by kernel_rfl) (fun _ _ _ h => h) (Or.inr ⟨by rfl, rfl⟩) hn ?_
      try simp only [Act.put, List.setIfInBounds_toArray, List.set_cons_zero, List.set_cons_succ]
      refine wpAnyH_take (i := 31) (oi := { dst := some 171, op := Op.call { callee := Callee.value (Operand.func 24), args := #[Operand.tmp 170, Operand.const (Value.int IntKind.i64 0)], argTypes := #[26, 3] }, type := 9, pos := "law.go:103", after := #[{ on := 30, ground := Ground.data }, { on := 27, ground := Ground.chain }, { on := 25, ground := Ground.guard }], guard := some (25, true) }) (v := undef) rfl (by kernel_rfl) (by kernel_rfl) (by kernel_rfl) (fun _ _ _ h => h) (Or.inr ⟨by rfl, rfl⟩) hn ?_
      try simp only [Act.put, List.setIfInBounds_toArray, List.set_cons_zero, List.set_cons_succ]
      refine wpAnyH_take (i := 32) (oi := { dst := some 172, op := Op.binOp BinOp.neq 9 (Operand.tmp 168) (Operand.tmp 171) 9, type := 4, pos := "law.go:103", after := #[{ on := 28, ground := Ground.data }, { on := 31, ground := Ground.data }, { on := 25, ground := Ground.guard }], guard := some (25, true) }) (v := undef) rfl (by kernel_rfl) (by kernel_rfl) (by kernel_rfl) (fun _ _ _ h => h) (Or.inr ⟨by rfl, rfl⟩) hn ?_
      try simp only [Act.put, List.setIfInBounds_toArray, List.set_cons_zero, List.set_cons_succ]
      refine wpAnyH_take (i := 33) (oi := { dst := some 173, op := Op.pick (Operand.tmp 165) (Operand.tmp 172) (Operand.const (Value.bool false)), type := 4, pos := "law.go:103", after := #[{ on := 25, ground := Ground.data }, { on := 32, ground := Ground.data }, { on := 23, ground := Ground.guard }], guard := some (23, false) }) (v := ?v2x81) rfl (by kernel_rfl) (by kernel_rfl) (by kernel_rfl) (fun _ _ _ h => h) (Or.inl ⟨by rfl, ?y2x81⟩) hn ?r2x81
      case y2x81 => (intro wS hS; (try go_simp); (try with_reducible rfl))
      try simp only [Act.put, List.setIfInBounds_toArray, List.set_cons_zero, List.set_cons_succ]
      refine wpAnyH_take (i := 34) (oi := { dst := some 174, op := Op.pick (Operand.tmp 163) (Operand.const (Value.bool true)) (Operand.tmp 173), type := 4, pos := "law.go:103", after := #[{ on := 23, ground := Ground.data }, { on := 33, ground := Ground.data }], guard := none }) (v := ?v2x82) rfl (by kernel_rfl) (by kernel_rfl) (by kernel_rfl) (fun _ _ _ h => h) (Or.inl ⟨by rfl, ?y2x82⟩) hn ?r2x82
      case y2x82 => (intro wS hS; (try go_simp); (try with_reducible rfl))
      try simp only [Act.put, List.setIfInBounds_toArray, List.set_cons_zero, List.set_cons_succ]
      refine wpAnyH_done (by kernel_rfl) ?_ _
      refine NoPanic.normal ?_
      exact HK.out _ _ _ _ _ _ _ _ _ _ _ _ _ _ _ _ _ _ _ _ _ _ _ _ _ _ _ _ _ _ _ _ _ _ _ hn
  | false =>
    cases li with
    | true =>
      refine wp_region_noPanic ?_
      refine wp_region_held_drew (S := (W4 w #[.int .u8 V.toNat, .string p, .string r, .bool lh, .int .u32 (lmn : Nat), .int .u32 (lmx : Nat), .int .u8 e.toNat, .bool th, .int .u32 (tmn : Nat), .int .u32 (tmx : Nat), .int .u8 gt.toNat, .bool gm] #[.string p', .string r'] (lb p) (lb r) #[.bool lh, .int .u32 (lmn : Nat), .int .u32 (lmx : Nat)] #[.int .u8 e.toNat, .bool th, .int .u32 (tmn : Nat), .int .u32 (tmx : Nat)] #[.int .u8 gt.toNat, .bool gm] g5 g6 g7 g8 (.slice y1 (lb p).length k1) (.slice y2 (lb r).length k2))) (by kernel_rfl) (by first | exact hn | exact (Upd.refl _ _).drew | exact Upd.drew (by assumption)) (fun hn => ?_)
      generalize W0.drew = wd at *
      refine wpAnyH_take (i := 0) (oi := { dst := some 140, op := Op.move (Operand.tmp 9), type := 4, pos := "law.go:103", after := #[], guard := none }) (v := ?v3x1) rfl (by kernel_rfl) (by kernel_rfl) (by kernel_rfl) (fun _ _ _ h => h) (Or.inl ⟨by rfl, ?y3x1⟩) hn ?r3x1
      case y3x1 => (intro wS hS; (try go_simp); (try with_reducible rfl))
      try simp only [Act.put, List.setIfInBounds_toArray, List.set_cons_zero, List.set_cons_succ]
      refine wpAnyH_take (i := 1) (oi := { dst := some 141, op := Op.move (Operand.tmp 140), type := 4, pos := "law.go:103", after := #[{ on := 0, ground := Ground.data }], guard := none }) (v := ?v3x2) rfl (by kernel_rfl) (by kernel_rfl) (by kernel_rfl) (fun _ _ _ h => h) (Or.inl ⟨by rfl, ?y3x2⟩) hn ?r3x2
      case y3x2 => (intro wS hS; (try go_simp); (try with_reducible rfl))
      try simp only [Act.put, List.setIfInBounds_toArray, List.set_cons_zero, List.set_cons_succ]
      refine wpAnyH_take (i := 2) (oi := { dst := some 142, op := Op.load 35 (Operand.tmp 5), type := 35, pos := "law.go:103", after := #[{ on := 1, ground := Ground.guard }], guard := some (1, true) }) (v := undef) rfl (by kernel_rfl) (by kernel_rfl) (by kernel_rfl) (fun _ _ _ h => h) (Or.inr ⟨by rfl, rfl⟩) hn ?_
      try simp only [Act.put, List.setIfInBounds_toArray, List.set_cons_zero, List.set_cons_succ]
      refine wpAnyH_take (i := 3) (oi := { dst := some 143, op := Op.move (Operand.tmp 12), type := 50, pos := "law.go:103", after := #[{ on := 1, ground := Ground.guard }], guard := some (1, true) }) (v := undef) rfl (by kernel_rfl) (by kernel_rfl) (by kernel_rfl) (fun _ _ _ h => h) (Or.inr ⟨by rfl, rfl⟩) hn ?_
      try simp only [Act.put, List.setIfInBounds_toArray, List.set_cons_zero, List.set_cons_succ]
      refine wpAnyH_take (i := 4) (oi := { dst := some 144, op := Op.call { callee := Callee.value (Operand.func 19), args := #[Operand.tmp 142, Operand.tmp 143], argTypes := #[35, 50] }, type := 50, pos := "law.go:103", after := #[{ on := 2, ground := Ground.data }, { on := 3, ground := Ground.data }, { on := 1, ground := Ground.chain }, { on := 1, ground := Ground.guard }], guard := some (1, true) }) (v := undef) rfl (by kernel_rfl) (by kernel_rfl) (by kernel_rfl) (fun _ _ _ h => h) (Or.inr ⟨by rfl, rfl⟩) hn ?_
      try simp only [Act.put, List.setIfInBounds_toArray, List.set_cons_zero, List.set_cons_succ]
      refine wpAnyH_take (i := 5) (oi := { dst := some 145, op := Op.convert 50 9 (Operand.tmp 144), type := 9, pos := "law.go:103", after := #[{ on := 4, ground := Ground.data }, { on := 1, ground := Ground.guard }], guard := some (1, true) }) (v := undef) rfl (by kernel_rfl) (by kernel_rfl) (by kernel_rfl) (fun _ _ _ h => h) (Or.inr ⟨by rfl, rfl⟩) hn ?_
      try simp only [Act.put, List.setIfInBounds_toArray, List.set_cons_zero, List.set_cons_succ]
      refine wpAnyH_take (i := 6) (oi := { dst := some 146, op := Op.fieldAddr 32 (Operand.tmp 2) 1, type := 0, pos := "law.go:103", after := #[{ on := 1, ground := Ground.guard }], guard := some (1, true) }) (v := undef) rfl (by kernel_rfl) (by kernel_rfl) (by kernel_rfl) (fun _ _ _ h => h) (Or.inr ⟨by rfl, rfl⟩) hn ?_
      try simp only [Act.put, List.setIfInBounds_toArray, List.set_cons_zero, List.set_cons_succ]
      refine wpAnyH_take (i := 7) (oi := { dst := some 147, op := Op.load 23 (Operand.tmp 146), type := 23, pos := "law.go:103", after := #[{ on := 6, ground := Ground.data }, { on := 1, ground := Ground.guard }], guard := some (1, true) }) (v := undef) rfl (by kernel_rfl) (by kernel_rfl) (by kernel_rfl) (fun _ _ _ h => h) (Or.inr ⟨by rfl, rfl⟩) hn ?_
      try simp only [Act.put, List.setIfInBounds_toArray, List.set_cons_zero, List.set_cons_succ]
      refine wpAnyH_take (i := 8) (oi := { dst := some 148, op := Op.call { callee := Callee.value (Operand.func 20), args := #[Operand.tmp 147, Operand.const (Value.int IntKind.i64 0)], argTypes := #[23, 3] }, type := 9, pos := "law.go:103", after := #[{ on := 7, ground := Ground.data }, { on := 4, ground := Ground.chain }, { on := 1, ground := Ground.guard }], guard := some (1, true) }) (v := undef) rfl (by kernel_rfl) (by kernel_rfl) (by kernel_rfl) (fun _ _ _ h => h) (Or.inr ⟨by rfl, rfl⟩) hn ?_
      try simp only [Act.put, List.setIfInBounds_toArray, List.set_cons_zero, List.set_cons_succ]
      refine wpAnyH_take (i := 9) (oi := { dst := some 149, op := Op.binOp BinOp.add 9 (Operand.const (Value.string { data := #[9] })) (Operand.tmp 148) 9, type := 9, pos := "law.go:103", after := #[{ on := 8, ground := Ground.data }, { on := 1, ground := Ground.guard }], guard := some (1, true) }) (v := undef) rfl (by kernel_rfl) (by kernel_rfl) (by kernel_rfl) (fun _ _ _ h => h) (Or.inr ⟨by rfl, rfl⟩) hn ?_
      try simp only [Act.put, List.setIfInBounds_toArray, List.set_cons_zero, List.set_cons_succ]
      refine wpAnyH_take (i := 10) (oi := { dst := some 150, op := Op.binOp BinOp.neq 9 (Operand.tmp 145) (Operand.tmp 149) 9, type := 4, pos := "law.go:103", after := #[{ on := 5, ground := Ground.data }, { on := 9, ground := Ground.data }, { on := 1, ground := Ground.guard }], guard := some (1, true) }) (v := undef) rfl (by kernel_rfl) (by kernel_rfl) (by kernel_rfl) (fun _ _ _ h => h) (Or.inr ⟨by rfl, rfl⟩) hn ?_
      try simp only [Act.put, List.setIfInBounds_toArray, List.set_cons_zero, List.set_cons_succ]
      refine wpAnyH_take (i := 11) (oi := { dst := some 151, op := Op.move (Operand.tmp 150), type := 4, pos := "law.go:103", after := #[{ on := 10, ground := Ground.data }, { on := 8, ground := Ground.chain }, { on := 1, ground := Ground.guard }], guard := some (1, true) }) (v := undef) rfl (by kernel_rfl) (by kernel_rfl) (by kernel_rfl) (fun _ _ _ h => h) (Or.inr ⟨by rfl, rfl⟩) hn ?_
      try simp only [Act.put, List.setIfInBounds_toArray, List.set_cons_zero, List.set_cons_succ]
      refine wpAnyH_take (i := 12) (oi := { dst := some 152, op := Op.fieldAddr 35 (Operand.tmp 5) 0, type := 0, pos := "law.go:103", after := #[{ on := 11, ground := Ground.guard }], guard := some (11, false) }) (v := undef) rfl (by kernel_rfl) (by kernel_rfl) (by kernel_rfl) (fun _ _ _ h => h) (Or.inr ⟨by rfl, rfl⟩) hn ?_
      try simp only [Act.put, List.setIfInBounds_toArray, List.set_cons_zero, List.set_cons_succ]
      refine wpAnyH_take (i := 13) (oi := { dst := some 153, op := Op.load 33 (Operand.tmp 152), type := 33, pos := "law.go:103", after := #[{ on := 12, ground := Ground.data }, { on := 11, ground := Ground.guard }], guard := some (11, false) }) (v := undef) rfl (by kernel_rfl) (by kernel_rfl) (by kernel_rfl) (fun _ _ _ h => h) (Or.inr ⟨by rfl, rfl⟩) hn ?_
      try simp only [Act.put, List.setIfInBounds_toArray, List.set_cons_zero, List.set_cons_succ]
      refine wpAnyH_take (i := 14) (oi := { dst := some 154, op := Op.call { callee := Callee.value (Operand.func 21), args := #[Operand.const (Value.slice none 0 0), Operand.tmp 153], argTypes := #[50, 33] }, type := 50, pos := "law.go:103", after := #[{ on := 13, ground := Ground.data }, { on := 11, ground := Ground.chain }, { on := 11, ground := Ground.guard }], guard := some (11, false) }) (v := undef) rfl (by kernel_rfl) (by kernel_rfl) (by kernel_rfl) (fun _ _ _ h => h) (Or.inr ⟨by rfl, rfl⟩) hn ?_
      try simp only [Act.put, List.setIfInBounds_toArray, List.set_cons_zero, List.set_cons_succ]
      refine wpAnyH_take (i := 15) (oi := { dst := some 155, op := Op.convert 50 9 (Operand.tmp 154), type := 9, pos := "law.go:103", after := #[{ on := 14, ground := Ground.data }, { on := 11, ground := Ground.guard }], guard := some (11, false) }) (v := undef) rfl (by kernel_rfl) (by kernel_rfl) (by kernel_rfl) (fun _ _ _ h => h) (Or.inr ⟨by rfl, rfl⟩) hn ?_
      try simp only [Act.put, List.setIfInBounds_toArray, List.set_cons_zero, List.set_cons_succ]
      refine wpAnyH_take (i := 16) (oi := { dst := some 156, op := Op.fieldAddr 32 (Operand.tmp 2) 1, type := 0, pos := "law.go:103", after := #[{ on := 11, ground := Ground.guard }], guard := some (11, false) }) (v := undef) rfl (by kernel_rfl) (by kernel_rfl) (by kernel_rfl) (fun _ _ _ h => h) (Or.inr ⟨by rfl, rfl⟩) hn ?_
      try simp only [Act.put, List.setIfInBounds_toArray, List.set_cons_zero, List.set_cons_succ]
      refine wpAnyH_take (i := 17) (oi := { dst := some 157, op := Op.fieldAddr 23 (Operand.tmp 156) 0, type := 0, pos := "law.go:103", after := #[{ on := 16, ground := Ground.data }, { on := 11, ground := Ground.guard }], guard := some (11, false) }) (v := undef) rfl (by kernel_rfl) (by kernel_rfl) (by kernel_rfl) (fun _ _ _ h => h) (Or.inr ⟨by rfl, rfl⟩) hn ?_
      try simp only [Act.put, List.setIfInBounds_toArray, List.set_cons_zero, List.set_cons_succ]
      refine wpAnyH_take (i := 18) (oi := { dst := some 158, op := Op.load 9 (Operand.tmp 157), type := 9, pos := "law.go:103", after := #[{ on := 17, ground := Ground.data }, { on := 11, ground := Ground.guard }], guard := some (11, false) }) (v := undef) rfl (by kernel_rfl) (by kernel_rfl) (by kernel_rfl) (fun _ _ _ h => h) (Or.inr ⟨by rfl, rfl⟩) hn ?_
      try simp only [Act.put, List.setIfInBounds_toArray, List.set_cons_zero, List.set_cons_succ]
      refine wpAnyH_take (i := 19) (oi := { dst := some 159, op := Op.call { callee := Callee.value (Operand.func 22), args := #[Operand.tmp 158, Operand.const (Value.int IntKind.i64 0)], argTypes := #[9, 3] }, type := 9, pos := "law.go:103", after := #[{ on := 18, ground := Ground.data }, { on := 14, ground := Ground.chain }, { on := 11, ground := Ground.guard }], guard := some (11, false) }) (v := undef) rfl (by kernel_rfl) (by kernel_rfl) (by kernel_rfl) (fun _ _ _ h => h) (Or.inr ⟨by rfl, rfl⟩) hn ?_
      try simp only [Act.put, List.setIfInBounds_toArray, List.set_cons_zero, List.set_cons_succ]
      refine wpAnyH_take (i := 20) (oi := { dst := some 160, op := Op.binOp BinOp.neq 9 (Operand.tmp 155) (Operand.tmp 159) 9, type := 4, pos := "law.go:103", after := #[{ on := 15, ground := Ground.data }, { on := 19, ground := Ground.data }, { on := 11, ground := Ground.guard }], guard := some (11, false) }) (v := undef) rfl (by kernel_rfl) (by kernel_rfl) (by kernel_rfl) (fun _ _ _ h => h) (Or.inr ⟨by rfl, rfl⟩) hn ?_
      try simp only [Act.put, List.setIfInBounds_toArray, List.set_cons_zero, List.set_cons_succ]
      refine wpAnyH_take (i := 21) (oi := { dst := some 161, op := Op.pick (Operand.tmp 151) (Operand.const (Value.bool true)) (Operand.tmp 160), type := 4, pos := "law.go:103", after := #[{ on := 11, ground := Ground.data }, { on := 20, ground := Ground.data }, { on := 1, ground := Ground.guard }], guard := some (1, true) }) (v := undef) rfl (by kernel_rfl) (by kernel_rfl) (by kernel_rfl) (fun _ _ _ h => h) (Or.inr ⟨by rfl, rfl⟩) hn ?_
      try simp only [Act.put, List.setIfInBounds_toArray, List.set_cons_zero, List.set_cons_succ]
      refine wpAnyH_take (i := 22) (oi := { dst := some 162, op := Op.pick (Operand.tmp 141) (Operand.tmp 161) (Operand.const (Value.bool false)), type := 4, pos := "law.go:103", after := #[{ on := 1, ground := Ground.data }, { on := 21, ground := Ground.data }], guard := none }) (v := ?v3x23) rfl (by kernel_rfl) (by kernel_rfl) (by kernel_rfl) (fun _ _ _ h => h) (Or.inl ⟨by rfl, ?y3x23⟩) hn ?r3x23
      case y3x23 => (intro wS hS; (try go_simp); (try with_reducible rfl))
      try simp only [Act.put, List.setIfInBounds_toArray, List.set_cons_zero, List.set_cons_succ]
      refine wpAnyH_take (i := 23) (oi := { dst := some 163, op := Op.move (Operand.tmp 162), type := 4, pos := "law.go:103", after := #[{ on := 22, ground := Ground.data }, { on := 19, ground := Ground.chain }], guard := none }) (v := ?v3x24) rfl (by kernel_rfl) (by kernel_rfl) (by kernel_rfl) (fun _ _ _ h => h) (Or.inl ⟨by rfl, ?y3x24⟩) hn ?r3x24
      case y3x24 => (intro wS hS; (try go_simp); (try with_reducible rfl))
      try simp only [Act.put, List.setIfInBounds_toArray, List.set_cons_zero, List.set_cons_succ]
      refine wpAnyH_take (i := 24) (oi := { dst := some 164, op := Op.move (Operand.tmp 10), type := 4, pos := "law.go:103", after := #[{ on := 23, ground := Ground.guard }], guard := some (23, false) }) (v := ?v3x25) rfl (by kernel_rfl) (by kernel_rfl) (by kernel_rfl) (fun _ _ _ h => h) (Or.inl ⟨by rfl, ?y3x25⟩) hn ?r3x25
      case y3x25 => (intro wS hS; (try go_simp); (try with_reducible rfl))
      try simp only [Act.put, List.setIfInBounds_toArray, List.set_cons_zero, List.set_cons_succ]
      refine wpAnyH_take (i := 25) (oi := { dst := some 165, op := Op.move (Operand.tmp 164), type := 4, pos := "law.go:103", after := #[{ on := 24, ground := Ground.data }, { on := 23, ground := Ground.chain }, { on := 23, ground := Ground.guard }], guard := some (23, false) }) (v := ?v3x26) rfl (by kernel_rfl) (by kernel_rfl) (by kernel_rfl) (fun _ _ _ h => h) (Or.inl ⟨by rfl, ?y3x26⟩) hn ?r3x26
      case y3x26 => (intro wS hS; (try go_simp); (try with_reducible rfl))
      try simp only [Act.put, List.setIfInBounds_toArray, List.set_cons_zero, List.set_cons_succ]
      refine wpAnyH_take (i := 26) (oi := { dst := some 166, op := Op.load 37 (Operand.tmp 6), type := 37, pos := "law.go:103", after := #[{ on := 25, ground := Ground.guard }], guard := some (25, true) }) (v := ?v3x27) rfl (by kernel_rfl) (by kernel_rfl) (by kernel_rfl) (fun _ _ _ h => h) (Or.inl ⟨by rfl, ?y3x27⟩) hn ?r3x27
      case y3x27 => (intro wS hS; have c0 : wS.cell? ⟨g6, 0, none⟩ = some (.bool lh) := cellAt hS.b6 0 rfl; have c1 : wS.cell? ⟨g6, 1, none⟩ = some (.int .u32 (lmn : Nat)) := cellAt hS.b6 1 rfl; have c2 : wS.cell? ⟨g6, 2, none⟩ = some (.int .u32 (lmx : Nat)) := cellAt hS.b6 2 rfl; (try go_simp); (try with_reducible rfl))
      try simp only [Act.put, List.setIfInBounds_toArray, List.set_cons_zero, List.set_cons_succ]
      refine wpAnyH_take (i := 29) (oi := { dst := some 169, op := Op.fieldAddr 32 (Operand.tmp 2) 2, type := 0, pos := "law.go:103", after := #[{ on := 25, ground := Ground.guard }], guard := some (25, true) }) (v := ?v3x28) rfl (by kernel_rfl) (by kernel_rfl) (by kernel_rfl) (fun _ _ _ h => h) (Or.inl ⟨by rfl, ?y3x28⟩) hn ?r3x28
      case y3x28 => (intro wS hS; (try go_simp); (try with_reducible rfl))
      try simp only [Act.put, List.setIfInBounds_toArray, List.set_cons_zero, List.set_cons_succ]
      refine wpAnyH_take (i := 30) (oi := { dst := some 170, op := Op.load 26 (Operand.tmp 169), type := 26, pos := "law.go:103", after := #[{ on := 29, ground := Ground.data }, { on := 25, ground := Ground.guard }], guard := some (25, true) }) (v := ?v3x29) rfl (by kernel_rfl) (by kernel_rfl) (by kernel_rfl) (fun _ _ _ h => h) (Or.inl ⟨by rfl, ?y3x29⟩) hn ?r3x29
      case y3x29 => (intro wS hS; have c0 := hS.tw.atx 3 rfl; have c1 := hS.tw.atx 4 rfl; have c2 := hS.tw.atx 5 rfl; (try go_simp); (try with_reducible rfl))
      try simp only [Act.put, List.setIfInBounds_toArray, List.set_cons_zero, List.set_cons_succ]
      refine wpAnyH_ready (rs := [27]) (by kernel_rfl) (by simp) ?_
      refine AllReadyH.cons (o := { dst := some 167, op := Op.call { callee := Callee.value (Operand.func 23), args := #[Operand.tmp 166, Operand.const (Value.slice none 0 0)], argTypes := #[37, 50] }, type := 50, pos := "law.go:103", after := #[{ on := 26, ground := Ground.data }, { on := 25, ground := Ground.chain }, { on := 25, ground := Ground.guard }], guard := some (25, true) }) rfl (fun K hK => ?_) AllReadyH.nil
      go_simp
      refine (HP6.out _).mono ?_
      rintro e1 wu ⟨v6, rfl, hb6, ha6⟩
      obtain ⟨hnq, -⟩ := Adds.nil ha6
      obtain ⟨a6, m6, c6, rfl⟩ : ∃ a n c, v6 = .slice a n c := (by obtain ⟨a, c, e⟩ := hb6.rd.shape; exact ⟨a, _, c, e⟩)
      go_wp2_with fail
      have hn := hn.new hnq
      refine hK.out _ _ (by first | exact hn | exact Upd.alloc hn _) (fun hn => ?_)
      clear hK K
      try simp only [Act.put, List.setIfInBounds_toArray, List.set_cons_zero, List.set_cons_succ]
      refine wpAnyH_ready (rs := [28, 31]) (by kernel_rfl) (by simp) ?_
      refine AllReadyH.cons (o := { dst := some 168, op := Op.convert 50 9 (Operand.tmp 167), type := 9, pos := "law.go:103", after := #[{ on := 27, ground := Ground.data }, { on := 25, ground := Ground.guard }], guard := some (25, true) }) rfl (fun K hK => ?_) ?_
      · skip
        have hs := hb6.rd.str
        go_simp
        refine hK.out _ _ (by first | exact hn | exact Upd.alloc hn _) (fun hn => ?_)
        clear hK K
        try simp only [Act.put, List.setIfInBounds_toArray, List.set_cons_zero, List.set_cons_succ]
        refine wpAnyH_ready (rs := [31]) (by kernel_rfl) (by simp) ?_
        refine AllReadyH.cons (o := { dst := some 171, op := Op.call { callee := Callee.value (Operand.func 24), args := #[Operand.tmp 170, Operand.const (Value.int IntKind.i64 0)], argTypes := #[26, 3] }, type := 9, pos := "law.go:103", after := #[{ on := 30, ground := Ground.data }, { on := 27, ground := Ground.chain }, { on := 25, ground := Ground.guard }], guard := some (25, true) }) rfl (fun K hK => ?_) AllReadyH.nil
        go_simp
        refine (HR6.out _).mono ?_
        rintro e1 wv ⟨rfl, hnq⟩
        go_wp2_with fail
        have hn := hn.new hnq
        (try have hb6 := hb6.new hnq)
        refine hK.out _ _ (by first | exact hn | exact Upd.alloc hn _) (fun hn => ?_)
        clear hK K
        try simp only [Act.put, List.setIfInBounds_toArray, List.set_cons_zero, List.set_cons_succ]
        refine wpAnyH_take (i := 32) (oi := { dst := some 172, op := Op.binOp BinOp.neq 9 (Operand.tmp 168) (Operand.tmp 171) 9, type := 4, pos := "law.go:103", after := #[{ on := 28, ground := Ground.data }, { on := 31, ground := Ground.data }, { on := 25, ground := Ground.guard }], guard := some (25, true) }) (v := ?v3x30) rfl (by kernel_rfl) (by kernel_rfl) (by kernel_rfl) (fun _ _ _ h => h) (Or.inl ⟨by rfl, ?y3x30⟩) hn ?r3x30
        case y3x30 => (intro wS hS; (try go_simp); (try with_reducible rfl))
        try simp only [Act.put, List.setIfInBounds_toArray, List.set_cons_zero, List.set_cons_succ]
        refine wpAnyH_take (i := 33) (oi := { dst := some 173, op := Op.pick (Operand.tmp 165) (Operand.tmp 172) (Operand.const (Value.bool false)), type := 4, pos := "law.go:103", after := #[{ on := 25, ground := Ground.data }, { on := 32, ground := Ground.data }, { on := 23, ground := Ground.guard }], guard := some (23, false) }) (v := ?v3x31) rfl (by kernel_rfl) (by kernel_rfl) (by kernel_rfl) (fun _ _ _ h => h) (Or.inl ⟨by rfl, ?y3x31⟩) hn ?r3x31
        case y3x31 => (intro wS hS; (try go_simp); (try with_reducible rfl))
        try simp only [Act.put, List.setIfInBounds_toArray, List.set_cons_zero, List.set_cons_succ]
        refine wpAnyH_take (i := 34) (oi := { dst := some 174, op := Op.pick (Operand.tmp 163) (Operand.const (Value.bool true)) (Operand.tmp 173), type := 4, pos := "law.go:103", after := #[{ on := 23, ground := Ground.data }, { on := 33, ground := Ground.data }], guard := none }) (v := ?v3x32) rfl (by kernel_rfl) (by kernel_rfl) (by kernel_rfl) (fun _ _ _ h => h) (Or.inl ⟨by rfl, ?y3x32⟩) hn ?r3x32
        case y3x32 => (intro wS hS; (try go_simp); (try with_reducible rfl))
        try simp only [Act.put, List.setIfInBounds_toArray, List.set_cons_zero, List.set_cons_succ]
        refine wpAnyH_done (by kernel_rfl) ?_ _
        refine NoPanic.normal ?_
        exact HK.out _ _ _ _ _ _ _ _ _ _ _ _ _ _ _ _ _ _ _ _ _ _ _ _ _ _ _ _ _ _ _ _ _ _ _ hn
      refine AllReadyH.cons (o := { dst := some 171, op := Op.call { callee := Callee.value (Operand.func 24), args := #[Operand.tmp 170, Operand.const (Value.int IntKind.i64 0)], argTypes := #[26, 3] }, type := 9, pos := "law.go:103", after := #[{ on := 30, ground := Ground.data }, { on := 27, ground := Ground.chain }, { on := 25, ground := Ground.guard }], guard := some (25, true) }) rfl (fun K hK => ?_) AllReadyH.nil
      go_simp
      refine (HR6.out _).mono ?_
      rintro e1 wv ⟨rfl, hnq⟩
      go_wp2_with fail
      have hn := hn.new hnq
      (try have hb6 := hb6.new hnq)
      refine hK.out _ _ (by first | exact hn | exact Upd.alloc hn _) (fun hn => ?_)
      clear hK K
      try simp only [Act.put, List.setIfInBounds_toArray, List.set_cons_zero, List.set_cons_succ]
      refine wpAnyH_ready (rs := [28]) (by kernel_rfl) (by simp) ?_
      refine AllReadyH.cons (o := { dst := some 168, op := Op.convert 50 9 (Operand.tmp 167), type := 9, pos := "law.go:103", after := #[{ on := 27, ground := Ground.data }, { on := 25, ground := Ground.guard }], guard := some (25, true) }) rfl (fun K hK => ?_) AllReadyH.nil
      have hs := hb6.rd.str
      go_simp
      refine hK.out _ _ (by first | exact hn | exact Upd.alloc hn _) (fun hn => ?_)
      clear hK K
      try simp only [Act.put, List.setIfInBounds_toArray, List.set_cons_zero, List.set_cons_succ]
      refine wpAnyH_take (i := 32) (oi := { dst := some 172, op := Op.binOp BinOp.neq 9 (Operand.tmp 168) (Operand.tmp 171) 9, type := 4, pos := "law.go:103", after := #[{ on := 28, ground := Ground.data }, { on := 31, ground := Ground.data }, { on := 25, ground := Ground.guard }], guard := some (25, true) }) (v := ?v3x33) rfl (by kernel_rfl) (by kernel_rfl) (by kernel_rfl) (fun _ _ _ h => h) (Or.inl ⟨by rfl, ?y3x33⟩) hn ?r3x33
      case y3x33 => (intro wS hS; (try go_simp); (try with_reducible rfl))
      try simp only [Act.put, List.setIfInBounds_toArray, List.set_cons_zero, List.set_cons_succ]
      refine wpAnyH_take (i := 33) (oi := { dst := some 173, op := Op.pick (Operand.tmp 165) (Operand.tmp 172) (Operand.const (Value.bool false)), type := 4, pos := "law.go:103", after := #[{ on := 25, ground := Ground.data }, { on := 32, ground := Ground.data }, { on := 23, ground := Ground.guard }], guard := some (23, false) }) (v := ?v3x34) rfl (by kernel_rfl) (by kernel_rfl) (by kernel_rfl) (fun _ _ _ h => h) (Or.inl ⟨by rfl, ?y3x34⟩) hn ?r3x34
      case y3x34 => (intro wS hS; (try go_simp); (try with_reducible rfl))
      try simp only [Act.put, List.setIfInBounds_toArray, List.set_cons_zero, List.set_cons_succ]
      refine wpAnyH_take (i := 34) (oi := { dst := some 174, op := Op.pick (Operand.tmp 163) (Operand.const (Value.bool true)) (Operand.tmp 173), type := 4, pos := "law.go:103", after := #[{ on := 23, ground := Ground.data }, { on := 33, ground := Ground.data }], guard := none }) (v := ?v3x35) rfl (by kernel_rfl) (by kernel_rfl) (by kernel_rfl) (fun _ _ _ h => h) (Or.inl ⟨by rfl, ?y3x35⟩) hn ?r3x35
      case y3x35 => (intro wS hS; (try go_simp); (try with_reducible rfl))
      try simp only [Act.put, List.setIfInBounds_toArray, List.set_cons_zero, List.set_cons_succ]
      refine wpAnyH_done (by kernel_rfl) ?_ _
      refine NoPanic.normal ?_
      exact HK.out _ _ _ _ _ _ _ _ _ _ _ _ _ _ _ _ _ _ _ _ _ _ _ _ _ _ _ _ _ _ _ _ _ _ _ hn
    | false =>
      refine wp_region_noPanic ?_
      refine wp_region_held_drew (S := (W4 w #[.int .u8 V.toNat, .string p, .string r, .bool lh, .int .u32 (lmn : Nat), .int .u32 (lmx : Nat), .int .u8 e.toNat, .bool th, .int .u32 (tmn : Nat), .int .u32 (tmx : Nat), .int .u8 gt.toNat, .bool gm] #[.string p', .string r'] (lb p) (lb r) #[.bool lh, .int .u32 (lmn : Nat), .int .u32 (lmx : Nat)] #[.int .u8 e.toNat, .bool th, .int .u32 (tmn : Nat), .int .u32 (tmx : Nat)] #[.int .u8 gt.toNat, .bool gm] g5 g6 g7 g8 (.slice y1 (lb p).length k1) (.slice y2 (lb r).length k2))) (by kernel_rfl) (by first | exact hn | exact (Upd.refl _ _).drew | exact Upd.drew (by assumption)) (fun hn => ?_)
      generalize W0.drew = wd at *
      refine wpAnyH_take (i := 0) (oi := { dst := some 140, op := Op.move (Operand.tmp 9), type := 4, pos := "law.go:103", after := #[], guard := none }) (v := ?v4x1) rfl (by kernel_rfl) (by kernel_rfl) (by kernel_rfl) (fun _ _ _ h => h) (Or.inl ⟨by rfl, ?y4x1⟩) hn ?r4x1
      case y4x1 => (intro wS hS; (try go_simp); (try with_reducible rfl))
      try simp only [Act.put, List.setIfInBounds_toArray, List.set_cons_zero, List.set_cons_succ]
      refine wpAnyH_take (i := 1) (oi := { dst := some 141, op := Op.move (Operand.tmp 140), type := 4, pos := "law.go:103", after := #[{ on := 0, ground := Ground.data }], guard := none }) (v := ?v4x2) rfl (by kernel_rfl) (by kernel_rfl) (by kernel_rfl) (fun _ _ _ h => h) (Or.inl ⟨by rfl, ?y4x2⟩) hn ?r4x2
      case y4x2 => (intro wS hS; (try go_simp); (try with_reducible rfl))
      try simp only [Act.put, List.setIfInBounds_toArray, List.set_cons_zero, List.set_cons_succ]
      refine wpAnyH_take (i := 2) (oi := { dst := some 142, op := Op.load 35 (Operand.tmp 5), type := 35, pos := "law.go:103", after := #[{ on := 1, ground := Ground.guard }], guard := some (1, true) }) (v := undef) rfl (by kernel_rfl) (by kernel_rfl) (by kernel_rfl) (fun _ _ _ h => h) (Or.inr ⟨by rfl, rfl⟩) hn ?_
      try simp only [Act.put, List.setIfInBounds_toArray, List.set_cons_zero, List.set_cons_succ]
      refine wpAnyH_take (i := 3) (oi := { dst := some 143, op := Op.move (Operand.tmp 12), type := 50, pos := "law.go:103", after := #[{ on := 1, ground := Ground.guard }], guard := some (1, true) }) (v := undef) rfl (by kernel_rfl) (by kernel_rfl) (by kernel_rfl) (fun _ _ _ h => h) (Or.inr ⟨by rfl, rfl⟩) hn ?_
      try simp only [Act.put, List.setIfInBounds_toArray, List.set_cons_zero, List.set_cons_succ]
      refine wpAnyH_take (i := 4) (oi := { dst := some 144, op := Op.call { callee := Callee.value (Operand.func 19), args := #[Operand.tmp 142, Operand.tmp 143], argTypes := #[35, 50] }, type := 50, pos := "law.go:103", after := #[{ on := 2, ground := Ground.data }, { on := 3, ground := Ground.data }, { on := 1, ground := Ground.chain }, { on := 1, ground := Ground.guard }], guard := some (1, true) }) (v := undef) rfl (by kernel_rfl) (by kernel_rfl) (by kernel_rfl) (fun _ _ _ h => h) (Or.inr ⟨by rfl, rfl⟩) hn ?_
      try simp only [Act.put, List.setIfInBounds_toArray, List.set_cons_zero, List.set_cons_succ]
      refine wpAnyH_take (i := 5) (oi := { dst := some 145, op := Op.convert 50 9 (Operand.tmp 144), type := 9, pos := "law.go:103", after := #[{ on := 4, ground := Ground.data }, { on := 1, ground := Ground.guard }], guard := some (1, true) }) (v := undef) rfl (by kernel_rfl) (by kernel_rfl) (by kernel_rfl) (fun _ _ _ h => h) (Or.inr ⟨by rfl, rfl⟩) hn ?_
      try simp only [Act.put, List.setIfInBounds_toArray, List.set_cons_zero, List.set_cons_succ]
      refine wpAnyH_take (i := 6) (oi := { dst := some 146, op := Op.fieldAddr 32 (Operand.tmp 2) 1, type := 0, pos := "law.go:103", after := #[{ on := 1, ground := Ground.guard }], guard := some (1, true) }) (v := undef) rfl (by kernel_rfl) (by kernel_rfl) (by kernel_rfl) (fun _ _ _ h => h) (Or.inr ⟨by rfl, rfl⟩) hn ?_
      try simp only [Act.put, List.setIfInBounds_toArray, List.set_cons_zero, List.set_cons_succ]
      refine wpAnyH_take (i := 7) (oi := { dst := some 147, op := Op.load 23 (Operand.tmp 146), type := 23, pos := "law.go:103", after := #[{ on := 6, ground := Ground.data }, { on := 1, ground := Ground.guard }], guard := some (1, true) }) (v := undef) rfl (by kernel_rfl) (by kernel_rfl) (by kernel_rfl) (fun _ _ _ h => h) (Or.inr ⟨by rfl, rfl⟩) hn ?_
      try simp only [Act.put, List.setIfInBounds_toArray, List.set_cons_zero, List.set_cons_succ]
      refine wpAnyH_take (i := 8) (oi := { dst := some 148, op := Op.call { callee := Callee.value (Operand.func 20), args := #[Operand.tmp 147, Operand.const (Value.int IntKind.i64 0)], argTypes := #[23, 3] }, type := 9, pos := "law.go:103", after := #[{ on := 7, ground := Ground.data }, { on := 4, ground := Ground.chain }, { on := 1, ground := Ground.guard }], guard := some (1, true) }) (v := undef) rfl (by kernel_rfl) (by kernel_rfl) (by kernel_rfl) (fun _ _ _ h => h) (Or.inr ⟨by rfl, rfl⟩) hn ?_
      try simp only [Act.put, List.setIfInBounds_toArray, List.set_cons_zero, List.set_cons_succ]
      refine wpAnyH_take (i := 9) (oi := { dst := some 149, op := Op.binOp BinOp.add 9 (Operand.const (Value.string { data := #[9] })) (Operand.tmp 148) 9, type := 9, pos := "law.go:103", after := #[{ on := 8, ground := Ground.data }, { on := 1, ground := Ground.guard }], guard := some (1, true) }) (v := undef) rfl (by kernel_rfl) (by kernel_rfl) (by kernel_rfl) (fun _ _ _ h => h) (Or.inr ⟨by rfl, rfl⟩) hn ?_
      try simp only [Act.put, List.setIfInBounds_toArray, List.set_cons_zero, List.set_cons_succ]
      refine wpAnyH_take (i := 10) (oi := { dst := some 150, op := Op.binOp BinOp.neq 9 (Operand.tmp 145) (Operand.tmp 149) 9, type := 4, pos := "law.go:103", after := #[{ on := 5, ground := Ground.data }, { on := 9, ground := Ground.data }, { on := 1, ground := Ground.guard }], guard := some (1, true) }) (v := undef) rfl (by kernel_rfl) (by kernel_rfl) (by kernel_rfl) (fun _ _ _ h => h) (Or.inr ⟨by rfl, rfl⟩) hn ?_
      try simp only [Act.put, List.setIfInBounds_toArray, List.set_cons_zero, List.set_cons_succ]
      refine wpAnyH_take (i := 11) (oi := { dst := some 151, op := Op.move (Operand.tmp 150), type := 4, pos := "law.go:103", after := #[{ on := 10, ground := Ground.data }, { on := 8, ground := Ground.chain }, { on := 1, ground := Ground.guard }], guard := some (1, true) }) (v := undef) rfl (by kernel_rfl) (by kernel_rfl) (by kernel_rfl) (fun _ _ _ h => h) (Or.inr ⟨by rfl, rfl⟩) hn ?_
      try simp only [Act.put, List.setIfInBounds_toArray, List.set_cons_zero, List.set_cons_succ]
      refine wpAnyH_take (i := 12) (oi := { dst := some 152, op := Op.fieldAddr 35 (Operand.tmp 5) 0, type := 0, pos := "law.go:103", after := #[{ on := 11, ground := Ground.guard }], guard := some (11, false) }) (v := undef) rfl (by kernel_rfl) (by kernel_rfl) (by kernel_rfl) (fun _ _ _ h => h) (Or.inr ⟨by rfl, rfl⟩) hn ?_
      try simp only [Act.put, List.setIfInBounds_toArray, List.set_cons_zero, List.set_cons_succ]
      refine wpAnyH_take (i := 13) (oi := { dst := some 153, op := Op.load 33 (Operand.tmp 152), type := 33, pos := "law.go:103", after := #[{ on := 12, ground := Ground.data }, { on := 11, ground := Ground.guard }], guard := some (11, false) }) (v := undef) rfl (by kernel_rfl) (by kernel_rfl) (by kernel_rfl) (fun _ _ _ h => h) (Or.inr ⟨by rfl, rfl⟩) hn ?_
      try simp only [Act.put, List.setIfInBounds_toArray, List.set_cons_zero, List.set_cons_succ]
      refine wpAnyH_take (i := 14) (oi := { dst := some 154, op := Op.call { callee := Callee.value (Operand.func 21), args := #[Operand.const (Value.slice none 0 0), Operand.tmp 153], argTypes := #[50, 33] }, type := 50, pos := "law.go:103", after := #[{ on := 13, ground := Ground.data }, { on := 11, ground := Ground.chain }, { on := 11, ground := Ground.guard }], guard := some (11, false) }) (v := undef) rfl (by kernel_rfl) (by kernel_rfl) (by kernel_rfl) (fun _ _ _ h => h) (Or.inr ⟨by rfl, rfl⟩) hn ?_
      try simp only [Act.put, List.setIfInBounds_toArray, List.set_cons_zero, List.set_cons_succ]
      refine wpAnyH_take (i := 15) (oi := { dst := some 155, op := Op.convert 50 9 (Operand.tmp 154), type := 9, pos := "law.go:103", after := #[{ on := 14, ground := Ground.data }, { on := 11, ground := Ground.guard }], guard := some (11, false) }) (v := undef) rfl (by kernel_rfl) (by kernel_rfl) (by kernel_rfl) (fun _ _ _ h => h) (Or.inr ⟨by rfl, rfl⟩) hn ?_
      try simp only [Act.put, List.setIfInBounds_toArray, List.set_cons_zero, List.set_cons_succ]
      refine wpAnyH_take (i := 16) (oi := { dst := some 156, op := Op.fieldAddr 32 (Operand.tmp 2) 1, type := 0, pos := "law.go:103", after := #[{ on := 11, ground := Ground.guard }], guard := some (11, false) }) (v := undef) rfl (by kernel_rfl) (by kernel_rfl) (by kernel_rfl) (fun _ _ _ h => h) (Or.inr ⟨by rfl, rfl⟩) hn ?_
      try simp only [Act.put, List.setIfInBounds_toArray, List.set_cons_zero, List.set_cons_succ]
      refine wpAnyH_take (i := 17) (oi := { dst := some 157, op := Op.fieldAddr 23 (Operand.tmp 156) 0, type := 0, pos := "law.go:103", after := #[{ on := 16, ground := Ground.data }, { on := 11, ground := Ground.guard }], guard := some (11, false) }) (v := undef) rfl (by kernel_rfl) (by kernel_rfl) (by kernel_rfl) (fun _ _ _ h => h) (Or.inr ⟨by rfl, rfl⟩) hn ?_
      try simp only [Act.put, List.setIfInBounds_toArray, List.set_cons_zero, List.set_cons_succ]
      refine wpAnyH_take (i := 18) (oi := { dst := some 158, op := Op.load 9 (Operand.tmp 157), type := 9, pos := "law.go:103", after := #[{ on := 17, ground := Ground.data }, { on := 11, ground := Ground.guard }], guard := some (11, false) }) (v := undef) rfl (by kernel_rfl) (by kernel_rfl) (by kernel_rfl) (fun _ _ _ h => h) (Or.inr ⟨by rfl, rfl⟩) hn ?_
      try simp only [Act.put, List.setIfInBounds_toArray, List.set_cons_zero, List.set_cons_succ]
      refine wpAnyH_take (i := 19) (oi := { dst := some 159, op := Op.call { callee := Callee.value (Operand.func 22), args := #[Operand.tmp 158, Operand.const (Value.int IntKind.i64 0)], argTypes := #[9, 3] }, type := 9, pos := "law.go:103", after := #[{ on := 18, ground := Ground.data }, { on := 14, ground := Ground.chain }, { on := 11, ground := Ground.guard }], guard := some (11, false) }) (v := undef) rfl (by kernel_rfl) (by kernel_rfl) (by kernel_rfl) (fun _ _ _ h => h) (Or.inr ⟨by rfl, rfl⟩) hn ?_
      try simp only [Act.put, List.setIfInBounds_toArray, List.set_cons_zero, List.set_cons_succ]
      refine wpAnyH_take (i := 20) (oi := { dst := some 160, op := Op.binOp BinOp.neq 9 (Operand.tmp 155) (Operand.tmp 159) 9, type := 4, pos := "law.go:103", after := #[{ on := 15, ground := Ground.data }, { on := 19, ground := Ground.data }, { on := 11, ground := Ground.guard }], guard := some (11, false) }) (v := undef) rfl (by kernel_rfl) (by kernel_rfl) (by kernel_rfl) (fun _ _ _ h => h) (Or.inr ⟨by rfl, rfl⟩) hn ?_
      try simp only [Act.put, List.setIfInBounds_toArray, List.set_cons_zero, List.set_cons_succ]
      refine wpAnyH_take (i := 21) (oi := { dst := some 161, op := Op.pick (Operand.tmp 151) (Operand.const (Value.bool true)) (Operand.tmp 160), type := 4, pos := "law.go:103", after := #[{ on := 11, ground := Ground.data }, { on := 20, ground := Ground.data }, { on := 1, ground := Ground.guard }], guard := some (1, true) }) (v := undef) rfl (by kernel_rfl) (by kernel_rfl) (by kernel_rfl) (fun _ _ _ h => h) (Or.inr ⟨by rfl, rfl⟩) hn ?_
      try simp only [Act.put, List.setIfInBounds_toArray, List.set_cons_zero, List.set_cons_succ]
      refine wpAnyH_take (i := 22) (oi := { dst := some 162, op := Op.pick (Operand.tmp 141) (Operand.tmp 161) (Operand.const (Value.bool false)), type := 4, pos := "law.go:103", after := #[{ on := 1, ground := Ground.data }, { on := 21, ground := Ground.data }], guard := none }) (v := ?v4x23) rfl (by kernel_rfl) (by kernel_rfl) (by kernel_rfl) (fun _ _ _ h => h) (Or.inl ⟨by rfl, ?y4x23⟩) hn ?r4x23
      case y4x23 => (intro wS hS; (try go_simp); (try with_reducible rfl))
      try simp only [Act.put, List.setIfInBounds_toArray, List.set_cons_zero, List.set_cons_succ]
      refine wpAnyH_take (i := 23) (oi := { dst := some 163, op := Op.move (Operand.tmp 162), type := 4, pos := "law.go:103", after := #[{ on := 22, ground := Ground.data }, { on := 19, ground := Ground.chain }], guard := none }) (v := ?v4x24) rfl (by kernel_rfl) (by kernel_rfl) (by kernel_rfl) (fun _ _ _ h => h) (Or.inl ⟨by rfl, ?y4x24⟩) hn ?r4x24
      case y4x24 => (intro wS hS; (try go_simp); (try with_reducible rfl))
      try simp only [Act.put, List.setIfInBounds_toArray, List.set_cons_zero, List.set_cons_succ]
      refine wpAnyH_take (i := 24) (oi := { dst := some 164, op := Op.move (Operand.tmp 10), type := 4, pos := "law.go:103", after := #[{ on := 23, ground := Ground.guard }], guard := some (23, false) }) (v := ?v4x25) rfl (by kernel_rfl) (by kernel_rfl) (by kernel_rfl) (fun _ _ _ h => h) (Or.inl ⟨by rfl, ?y4x25⟩) hn ?r4x25
      case y4x25 => (intro wS hS; (try go_simp); (try with_reducible rfl))
      try simp only [Act.put, List.setIfInBounds_toArray, List.set_cons_zero, List.set_cons_succ]
      refine wpAnyH_take (i := 25) (oi := { dst := some 165, op := Op.move (Operand.tmp 164), type := 4, pos := "law.go:103", after := #[{ on := 24, ground := Ground.data }, { on := 23, ground := Ground.chain }, { on := 23, ground := Ground.guard }], guard := some (23, false) }) (v := ?v4x26) rfl (by kernel_rfl) (by kernel_rfl) (by kernel_rfl) (fun _ _ _ h => h) (Or.inl ⟨by rfl, ?y4x26⟩) hn ?r4x26
      case y4x26 => (intro wS hS; (try go_simp); (try with_reducible rfl))
      try simp only [Act.put, List.setIfInBounds_toArray, List.set_cons_zero, List.set_cons_succ]
      refine wpAnyH_take (i := 26) (oi := { dst := some 166, op := Op.load 37 (Operand.tmp 6), type := 37, pos := "law.go:103", after := #[{ on := 25, ground := Ground.guard }], guard := some (25, true) }) (v := undef) rfl (by kernel_rfl) (by kernel_rfl) (by kernel_rfl) (fun _ _ _ h => h) (Or.inr ⟨by rfl, rfl⟩) hn ?_
      try simp only [Act.put, List.setIfInBounds_toArray, List.set_cons_zero, List.set_cons_succ]
      refine wpAnyH_take (i := 27) (oi := { dst := some 167, op := Op.call { callee := Callee.value (Operand.func 23), args := #[Operand.tmp 166, Operand.const (Value.slice none 0 0)], argTypes := #[37, 50] }, type := 50, pos := "law.go:103", after := #[{ on := 26, ground := Ground.data }, { on := 25, ground := Ground.chain }, { on := 25, ground := Ground.guard }], guard := some (25, true) }) (v := undef) rfl (by kernel_rfl) (by kernel_rfl) (by kernel_rfl) (fun _ _ _ h => h) (Or.inr ⟨by rfl, rfl⟩) hn ?_
      try simp only [Act.put, List.setIfInBounds_toArray, List.set_cons_zero, List.set_cons_succ]
      refine wpAnyH_take (i := 28) (oi := { dst := some 168, op := Op.convert 50 9 (Operand.tmp 167), type := 9, pos := "law.go:103", after := #[{ on := 27, ground := Ground.data }, { on := 25, ground := Ground.guard }], guard := some (25, true) }) (v := undef) rfl (by kernel_rfl) (by kernel_rfl) (by kernel_rfl) (fun _ _ _ h => h) (Or.inr ⟨by rfl, rfl⟩) hn ?_
      try simp only [Act.put, List.setIfInBounds_toArray, List.set_cons_zero, List.set_cons_succ]
      refine wpAnyH_take (i := 29) (oi := { dst := some 169, op := Op.fieldAddr 32 (Operand.tmp 2) 2, type := 0, pos := "law.go:103", after := #[{ on := 25, ground := Ground.guard }], guard := some (25, true) }) (v := undef) rfl (by kernel_rfl) (by kernel_rfl) (by kernel_rfl) (fun _ _ _ h => h) (Or.inr ⟨by rfl, rfl⟩) hn ?_
      try simp only [Act.put, List.setIfInBounds_toArray, List.set_cons_zero, List.set_cons_succ]
      refine wpAnyH_take (i := 30) (oi := { dst := some 170, op := Op.load 26 (Operand.tmp 169), type := 26, pos := "law.go:103", after := #[{ on := 29, ground := Ground.data }, { on := 25, ground := Ground.guard }], guard := some (25, true) }) (v := undef) rfl (by kernel_rfl) (by kernel_rfl) (by kernel_rfl) (fun _ _ _ h => h) (Or.inr ⟨by rfl, rfl⟩) hn ?_
      try simp only [Act.put, List.setIfInBounds_toArray, List.set_cons_zero, List.set_cons_succ]
      refine wpAnyH_take (i := 31) (oi := { dst := some 171, op := Op.call { callee := Callee.value (Operand.func 24), args := #[Operand.tmp 170, Operand.const (Value.int IntKind.i64 0)], argTypes := #[26, 3] }, type := 9, pos := "law.go:103", after := #[{ on := 30, ground := Ground.data }, { on := 27, ground := Ground.chain }, { on := 25, ground := Ground.guard }], guard := some (25, true) }) (v := undef) rfl (by kernel_rfl) (by kernel_rfl) (by kernel_rfl) (fun _ _ _ h => h) (Or.inr ⟨by rfl, rfl⟩) hn ?_
      try simp only [Act.put, List.setIfInBounds_toArray, List.set_cons_zero, List.set_cons_succ]
      refine wpAnyH_take (i := 32) (oi := { dst := some 172, op := Op.binOp BinOp.neq 9 (Operand.tmp 168) (Operand.tmp 171) 9, type := 4, pos := "law.go:103", after := #[{ on := 28, ground := Ground.data }, { on := 31, ground := Ground.data }, { on := 25, ground := Ground.guard }], guard := some (25, true) }) (v := undef) rfl (by kernel_rfl) (by kernel_rfl) (by kernel_rfl) (fun _ _ _ h => h) (Or.inr ⟨by rfl, rfl⟩) hn ?_
      try simp only [Act.put, List.setIfInBounds_toArray, List.set_cons_zero, List.set_cons_succ]
      refine wpAnyH_take (i := 33) (oi := { dst := some 173, op := Op.pick (Operand.tmp 165) (Operand.tmp 172) (Operand.const (Value.bool false)), type := 4, pos := "law.go:103", after := #[{ on := 25, ground := Ground.data }, { on := 32, ground := Ground.data }, { on := 23, ground := Ground.guard }], guard := some (23, false) }) (v := ?v4x34) rfl (by kernel_rfl) (by kernel_rfl) (by kernel_rfl) (fun _ _ _ h => h) (Or.inl ⟨by rfl, ?y4x34⟩) hn ?r4x34
      case y4x34 => (intro wS hS; (try go_simp); (try with_reducible rfl))
      try simp only [Act.put, List.setIfInBounds_toArray, List.set_cons_zero, List.set_cons_succ]
      refine wpAnyH_take (i := 34) (oi := { dst := some 174, op := Op.pick (Operand.tmp 163) (Operand.const (Value.bool true)) (Operand.tmp 173), type := 4, pos := "law.go:103", after := #[{ on := 23, ground := Ground.data }, { on := 33, ground := Ground.data }], guard := none }) (v := ?v4x35) rfl (by kernel_rfl) (by kernel_rfl) (by kernel_rfl) (fun _ _ _ h => h) (Or.inl ⟨by rfl, ?y4x35⟩) hn ?r4x35
      case y4x35 => (intro wS hS; (try go_simp); (try with_reducible rfl))
      try simp only [Act.put, List.setIfInBounds_toArray, List.set_cons_zero, List.set_cons_succ]
      refine wpAnyH_done (by kernel_rfl) ?_ _
      refine NoPanic.normal ?_
      exact HK.out _ _ _ _ _ _ _ _ _ _ _ _ _ _ _ _ _ _ _ _ _ _ _ _ _ _ _ _ _ _ _ _ _ _ _ hn

end Go.Proofs.Ytjagimlmclejeaa
