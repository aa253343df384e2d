/-
  WtypePuts: each type may be, by both sides alike; two functions are the same.
-/
import Derived.Test.YtjagimlmclejeaaJ36
import Derived.Test.YtjagimlmclejeaaJ37
namespace Go.Proofs.Ytjagimlmclejeaa
open Go.RowKit Go.Proofs.Leb Go.Proofs.Own
set_option maxRecDepth 100000
set_option maxHeartbeats 8000000


noncomputable def wl6code : Code := (Try.f3.body.bind (findRegion 6)).getD .skip
theorem wl6_any {K : Act → World → Prop} {Q : Exit → Act → World → Prop} (w W0 : World) (V e gt : UInt8) (p r p' r' : ByteArray) (lh th gm : Bool) (lmn lmx tmn tmx : Nat) (g5 g6 g7 g8 : Nat) (y1 y2 : Option Addr) (k1 k2 : Nat) (fn li tb : Bool)
    (h0 : W4 w #[.int .u8 V.toNat, .string p, .string r, .bool lh, .int .u32 (lmn : Nat), .int .u32 (lmx : Nat), .int .u8 e.toNat, .bool th, .int .u32 (tmn : Nat), .int .u32 (tmx : Nat), .int .u8 gt.toNat, .bool gm] #[.string p', .string r'] (lb p) (lb r) #[.bool lh, .int .u32 (lmn : Nat), .int .u32 (lmx : Nat)] #[.int .u8 e.toNat, .bool th, .int .u32 (tmn : Nat), .int .u32 (tmx : Nat)] #[.int .u8 gt.toNat, .bool gm] g5 g6 g7 g8 (.slice y1 (lb p).length k1) (.slice y2 (lb r).length k2) W0) (hfn : (valsV (lb p) && valsV (lb r)) = fn) (hli : (lh || decide (lmx = 0)) = li) (htb : (refV e.toNat && (th || decide (tmx = 0))) = tb) (s1 : p.size ≤ 300) (s2 : r.size ≤ 300) (s3 : p'.size ≤ 300) (s4 : r'.size ≤ 300) (t0 t1 t4 t12 t13 t14 t15 t16 t17 t18 t19 t20 t21 t22 t23 t24 t25 t26 t27 t28 t29 t30 t31 t32 t33 t34 t35 t36 t37 t38 t39 t40 t41 t42 t43 t44 t45 t46 t47 t48 t49 t50 t51 t52 t53 t54 t55 t56 t57 t58 t59 t60 t61 t62 t63 t64 t65 t66 t67 t68 t69 t70 t71 t72 t73 t74 t75 t76 t77 t78 t79 t80 t81 t82 t83 t84 t85 t86 t87 t88 t89 t90 t91 t92 t93 t94 t95 t96 t97 t98 t99 t100 t101 t102 t103 t104 t105 t106 t107 t108 t109 t110 t111 t112 t113 t114 t115 t116 t117 t118 t119 t120 t121 t122 t123 t124 t125 t126 t127 t128 t129 t130 t131 t132 t133 t134 t135 t136 t137 t138 t139 t140 t141 t142 t143 t144 t145 t146 t147 t148 t149 t150 t151 t152 t153 t154 t155 t156 t157 t158 t159 t160 t161 t162 t163 t164 t165 t166 t167 t168 t169 t170 t171 t172 t173 t174 t175 t176 t177 t178 t179 t180 t181 t182 t183 t184 t185 t186 t187 t188 t189 t190 t191 t192 t193 t194 t195 t196 t197 t198 t199 t200 t201 t202 t203 t204 : Value)
    (hK : ∀ (v85 v86 v87 v88 v89 v90 v91 v92 v93 v94 v95 v96 v97 v98 v99 v100 v101 v102 v103 v104 v105 v106 v107 v108 v109 v110 v111 v112 v113 v114 v115 v116 v117 v118 v119 v120 v121 v122 v123 v124 v125 v126 v127 v128 v129 v130 v131 v132 v133 v134 v135 v136 v137 : Value)  (W2 : World), W4 w #[.int .u8 V.toNat, .string p, .string r, .bool lh, .int .u32 (lmn : Nat), .int .u32 (lmx : Nat), .int .u8 e.toNat, .bool th, .int .u32 (tmn : Nat), .int .u32 (tmx : Nat), .int .u8 gt.toNat, .bool gm] #[.string p', .string r'] (lb p) (lb r) #[.bool lh, .int .u32 (lmn : Nat), .int .u32 (lmx : Nat)] #[.int .u8 e.toNat, .bool th, .int .u32 (tmn : Nat), .int .u32 (tmx : Nat)] #[.int .u8 gt.toNat, .bool gm] g5 g6 g7 g8 (.slice y1 (lb p).length k1) (.slice y2 (lb r).length k2) W2 → K ⟨#[t0, t1, .pointer (some ⟨w.heap.size, 0, none⟩), .pointer (some ⟨w.heap.size + 1, 0, none⟩), t4, .pointer (some ⟨g5, 0, none⟩), .pointer (some ⟨g6, 0, none⟩), .pointer (some ⟨g7, 0, none⟩), .pointer (some ⟨g8, 0, none⟩), .bool fn, .bool li, .bool tb, t12, t13, t14, t15, t16, t17, t18, t19, t20, t21, t22, t23, t24, t25, t26, t27, t28, t29, t30, t31, t32, t33, t34, t35, t36, t37, t38, t39, t40, t41, t42, t43, t44, t45, t46, t47, t48, t49, t50, t51, t52, t53, t54, t55, t56, t57, t58, t59, t60, t61, t62, t63, t64, t65, t66, t67, t68, t69, t70, t71, t72, t73, t74, t75, t76, t77, t78, t79, t80, t81, t82, t83, t84, v85, v86, v87, v88, v89, v90, v91, v92, v93, v94, v95, v96, v97, v98, v99, v100, v101, v102, v103, v104, v105, v106, v107, v108, v109, v110, v111, v112, v113, v114, v115, v116, v117, v118, v119, v120, v121, v122, v123, v124, v125, v126, v127, v128, v129, v130, v131, v132, v133, v134, v135, v136, v137, .bool false, t139, t140, t141, t142, t143, t144, t145, t146, t147, t148, t149, t150, t151, t152, t153, t154, t155, t156, t157, t158, t159, t160, t161, t162, t163, t164, t165, t166, t167, t168, t169, t170, t171, t172, t173, t174, t175, t176, t177, t178, t179, t180, t181, t182, t183, t184, t185, t186, t187, t188, t189, t190, t191, t192, t193, t194, t195, t196, t197, t198, t199, t200, t201, t202, t203, t204], []⟩ W2) :
    Code.wp Try.prog wl6code (Exit.then K Q) ⟨#[t0, t1, .pointer (some ⟨w.heap.size, 0, none⟩), .pointer (some ⟨w.heap.size + 1, 0, none⟩), t4, .pointer (some ⟨g5, 0, none⟩), .pointer (some ⟨g6, 0, none⟩), .pointer (some ⟨g7, 0, none⟩), .pointer (some ⟨g8, 0, none⟩), .bool fn, .bool li, .bool tb, t12, t13, t14, t15, t16, t17, t18, t19, t20, t21, t22, t23, t24, t25, t26, t27, t28, t29, t30, t31, t32, t33, t34, t35, t36, t37, t38, t39, t40, t41, t42, t43, t44, t45, t46, t47, t48, t49, t50, t51, t52, t53, t54, t55, t56, t57, t58, t59, t60, t61, t62, t63, t64, t65, t66, t67, t68, t69, t70, t71, t72, t73, t74, t75, t76, t77, t78, t79, t80, t81, t82, t83, t84, t85, t86, t87, t88, t89, t90, t91, t92, t93, t94, t95, t96, t97, t98, t99, t100, t101, t102, t103, t104, t105, t106, t107, t108, t109, t110, t111, t112, t113, t114, t115, t116, t117, t118, t119, t120, t121, t122, t123, t124, t125, t126, t127, t128, t129, t130, t131, t132, t133, t134, t135, t136, t137, t138, t139, t140, t141, t142, t143, t144, t145, t146, t147, t148, t149, t150, t151, t152, t153, t154, t155, t156, t157, t158, t159, t160, t161, t162, t163, t164, t165, t166, t167, t168, t169, t170, t171, t172, t173, t174, t175, t176, t177, t178, t179, t180, t181, t182, t183, t184, t185, t186, t187, t188, t189, t190, t191, t192, t193, t194, t195, t196, t197, t198, t199, t200, t201, t202, t203, t204], []⟩ W0 := by
  have HK := hid hK
  clear hK
  have l1 := lb_len p
  have l2 := lb_len r
  have l3 := lb_len p'
  have l4 := lb_len r'
  have HFR := hid (fun w' (v v2 : Value) (h1 : Rd w' v (lb p)) (h2 : Rd w' v2 (lb r)) => funcRight_any v v2 (lb p) (lb r) w' h1 (by omega) h2 (by omega))
  rw [hfn] at HFR
  have HLM := hid (fun w' => lmRight_any ⟨lh, lmn, lmx⟩ w')
  have HTM := hid (fun w' => tbRight_any ⟨e.toNat, th, tmn, tmx⟩ w')
  have hl : lmR ⟨lh, lmn, lmx⟩ = li := by rw [← hli]; unfold lmR; simp only; congr 1; simp
  have ht : tbR ⟨e.toNat, th, tmn, tmx⟩ = tb := by rw [← htb]; unfold tbR; simp only; congr 2; simp
  rw [hl] at HLM
  rw [ht] at HTM
  unfold lmC at HLM
  unfold tbC at HTM
  simp only at HLM HTM
  have HGT := hid (fun w' => gtRight_any gt.toNat gm w')
  have HGV := hid (fun w' => rval_any gt.toNat w')
  have HV1 := hid (fun w' => vright_any V.toNat w')
  have HV2 := hid (fun w' => rval_any V.toNat w')
  have HV3 := hid (fun w' => vref_any V.toNat w')
  have HV4 := hid (fun w' => rref_any V.toNat w')
  have HOF := hid (fun w' => ownFn_any ⟨p', r'⟩ w' (by simp only; omega) (by simp only; omega))
  have HSM := hid (fun w' (u1 u2 v1 v2 : Value) (h1 : Rd w' u1 (lb p)) (h2 : Rd w' u2 (lb r)) (h3 : Rd w' v1 (lb p')) (h4 : Rd w' v2 (lb r')) => funcSame_any u1 u2 v1 v2 (lb p) (lb r) (lb p') (lb r') w' h1 h2 h3 h4 (by omega) (by omega) (by omega) (by omega))
  obtain ⟨sm, hsm⟩ : ∃ b, decide (lb p = lb p' ∧ lb r = lb r') = b := ⟨_, rfl⟩
  have hsm2 : decide (p = p' ∧ r = r') = sm := by rw [← hsm]; congr 1; apply propext; exact ⟨fun h => ⟨congrArg lb h.1, congrArg lb h.2⟩, fun h => ⟨lb_inj h.1, lb_inj h.2⟩⟩
  have HDC : Hid (decide (p.toList = p'.toList ∧ r.toList = r'.toList) = sm) := by show _ = _; rw [← hsm2]; simp only [tl_iff]
  rw [hsm] at HSM
  generalize valV gt.toNat = gv at *
  generalize valV V.toNat = vv at *
  generalize refV V.toNat = vr at *
  clear hfn hli htb hl ht hsm hsm2 l1 l2 l3 l4 s1 s2 s3 s4
  conv => arg 2; whnf
  have HS0 := hid h0
  clear h0
  have hn := HS0.out.new (Upd.refl (fun _ => False) W0).drew
  have bb : ∀ b : Bool, (b != b) = false := fun b => by cases b <;> rfl
  have bn := bb fn
  have bl := bb li
  have bt := bb tb
  have bg := bb gv
  have bv := bb vv
  have br := bb vr
  have bs := bb sm
  clear bb
  refine wp_region_noPanic ?_
  refine wp_region_held_drew (S := (W4 w #[.int .u8 V.toNat, .string p, .string r, .bool lh, .int .u32 (lmn : Nat), .int .u32 (lmx : Nat), .int .u8 e.toNat, .bool th, .int .u32 (tmn : Nat), .int .u32 (tmx : Nat), .int .u8 gt.toNat, .bool gm] #[.string p', .string r'] (lb p) (lb r) #[.bool lh, .int .u32 (lmn : Nat), .int .u32 (lmx : Nat)] #[.int .u8 e.toNat, .bool th, .int .u32 (tmn : Nat), .int .u32 (tmx : Nat)] #[.int .u8 gt.toNat, .bool gm] g5 g6 g7 g8 (.slice y1 (lb p).length k1) (.slice y2 (lb r).length k2))) (by kernel_rfl) (by first | exact hn | exact (Upd.refl _ _).drew | exact Upd.drew (by assumption)) (fun hn => ?_)
  generalize W0.drew = wd at *
  refine wpAnyH_take (i := 0) (oi := { dst := some 85, op := Op.load 35 (Operand.tmp 5), type := 35, pos := "law.go:99", after := #[], guard := none }) (v := ?v1x1) rfl (by kernel_rfl) (by kernel_rfl) (by kernel_rfl) (fun _ _ _ h => h) (Or.inl ⟨by rfl, ?y1x1⟩) hn ?r1x1
  case y1x1 => (intro wS hS; have c0 : wS.cell? ⟨g5, 0, none⟩ = some (.slice y1 (lb p).length k1) := cellAt hS.b5 0 rfl; have c1 : wS.cell? ⟨g5, 1, none⟩ = some (.slice y2 (lb r).length k2) := cellAt hS.b5 1 rfl; (try go_simp); (try with_reducible rfl))
  try simp only [Act.put, List.setIfInBounds_toArray, List.set_cons_zero, List.set_cons_succ]
  refine wpAnyH_take (i := 2) (oi := { dst := some 87, op := Op.move (Operand.tmp 9), type := 4, pos := "law.go:99", after := #[], guard := none }) (v := ?v1x2) rfl (by kernel_rfl) (by kernel_rfl) (by kernel_rfl) (fun _ _ _ h => h) (Or.inl ⟨by rfl, ?y1x2⟩) hn ?r1x2
  case y1x2 => (intro wS hS; (try go_simp); (try with_reducible rfl))
  try simp only [Act.put, List.setIfInBounds_toArray, List.set_cons_zero, List.set_cons_succ]
  refine wpAnyH_ready (rs := [1]) (by kernel_rfl) (by simp) ?_
  refine AllReadyH.cons (o := { dst := some 86, op := Op.call { callee := Callee.value (Operand.func 11), args := #[Operand.tmp 85], argTypes := #[35] }, type := 4, pos := "law.go:99", after := #[{ on := 0, ground := Ground.data }], guard := none }) rfl (fun K hK => ?_) AllReadyH.nil
  go_simp
  refine (HFR.out _ _ _ hn.r1.rd hn.r2.rd).mono ?_
  rintro e wq ⟨rfl, hnq⟩
  go_wp2_with fail
  have hn := hn.new hnq
  refine hK.out _ _ (by first | exact hn | exact Upd.alloc hn _) (fun hn => ?_)
  clear hK K
  try simp only [Act.put, List.setIfInBounds_toArray, List.set_cons_zero, List.set_cons_succ]
  refine wpAnyH_take (i := 3) (oi := { dst := some 88, op := Op.binOp BinOp.neq 4 (Operand.tmp 86) (Operand.tmp 87) 4, type := 4, pos := "law.go:99", after := #[{ on := 1, ground := Ground.data }, { on := 2, ground := Ground.data }], guard := none }) (v := ?v1x3) rfl (by kernel_rfl) (by kernel_rfl) (by kernel_rfl) (fun _ _ _ h => h) (Or.inl ⟨by rfl, ?y1x3⟩) hn ?r1x3
  case y1x3 => (intro wS hS; (try go_simp); (try with_reducible rfl))
  try simp only [Act.put, List.setIfInBounds_toArray, List.set_cons_zero, List.set_cons_succ]
  refine wpAnyH_take (i := 4) (oi := { dst := some 89, op := Op.move (Operand.tmp 88), type := 4, pos := "law.go:99", after := #[{ on := 3, ground := Ground.data }, { on := 1, ground := Ground.chain }], guard := none }) (v := ?v1x4) rfl (by kernel_rfl) (by kernel_rfl) (by kernel_rfl) (fun _ _ _ h => h) (Or.inl ⟨by rfl, ?y1x4⟩) hn ?r1x4
  case y1x4 => (intro wS hS; (try go_simp); (try with_reducible rfl))
  try simp only [Act.put, List.setIfInBounds_toArray, List.set_cons_zero, List.set_cons_succ]
  refine wpAnyH_take (i := 5) (oi := { dst := some 90, op := Op.load 37 (Operand.tmp 6), type := 37, pos := "law.go:99", after := #[{ on := 4, ground := Ground.guard }], guard := some (4, false) }) (v := ?v1x5) rfl (by kernel_rfl) (by kernel_rfl) (by kernel_rfl) (fun _ _ _ h => h) (Or.inl ⟨by rfl, ?y1x5⟩) hn ?r1x5
  case y1x5 => (intro wS hS; have c0 : wS.cell? ⟨g6, 0, none⟩ = some (.bool lh) := cellAt hS.b6 0 rfl; have c1 : wS.cell? ⟨g6, 1, none⟩ = some (.int .u32 (lmn : Nat)) := cellAt hS.b6 1 rfl; have c2 : wS.cell? ⟨g6, 2, none⟩ = some (.int .u32 (lmx : Nat)) := cellAt hS.b6 2 rfl; (try go_simp); (try with_reducible rfl))
  try simp only [Act.put, List.setIfInBounds_toArray, List.set_cons_zero, List.set_cons_succ]
  refine wpAnyH_take (i := 7) (oi := { dst := some 92, op := Op.move (Operand.tmp 10), type := 4, pos := "law.go:99", after := #[{ on := 4, ground := Ground.guard }], guard := some (4, false) }) (v := ?v1x6) rfl (by kernel_rfl) (by kernel_rfl) (by kernel_rfl) (fun _ _ _ h => h) (Or.inl ⟨by rfl, ?y1x6⟩) hn ?r1x6
  case y1x6 => (intro wS hS; (try go_simp); (try with_reducible rfl))
  try simp only [Act.put, List.setIfInBounds_toArray, List.set_cons_zero, List.set_cons_succ]
  refine wpAnyH_ready (rs := [6]) (by kernel_rfl) (by simp) ?_
  refine AllReadyH.cons (o := { dst := some 91, op := Op.call { callee := Callee.value (Operand.func 12), args := #[Operand.tmp 90], argTypes := #[37] }, type := 4, pos := "law.go:99", after := #[{ on := 5, ground := Ground.data }, { on := 4, ground := Ground.chain }, { on := 4, ground := Ground.guard }], guard := some (4, false) }) rfl (fun K hK => ?_) AllReadyH.nil
  go_simp
  refine (HLM.out _).mono ?_
  rintro e wr ⟨rfl, hnq⟩
  go_wp2_with fail
  have hn := hn.new hnq
  refine hK.out _ _ (by first | exact hn | exact Upd.alloc hn _) (fun hn => ?_)
  clear hK K
  try simp only [Act.put, List.setIfInBounds_toArray, List.set_cons_zero, List.set_cons_succ]
  refine wpAnyH_take (i := 8) (oi := { dst := some 93, op := Op.binOp BinOp.neq 4 (Operand.tmp 91) (Operand.tmp 92) 4, type := 4, pos := "law.go:99", after := #[{ on := 6, ground := Ground.data }, { on := 7, ground := Ground.data }, { on := 4, ground := Ground.guard }], guard := some (4, false) }) (v := ?v1x7) rfl (by kernel_rfl) (by kernel_rfl) (by kernel_rfl) (fun _ _ _ h => h) (Or.inl ⟨by rfl, ?y1x7⟩) hn ?r1x7
  case y1x7 => (intro wS hS; (try go_simp); (try with_reducible rfl))
  try simp only [Act.put, List.setIfInBounds_toArray, List.set_cons_zero, List.set_cons_succ]
  refine wpAnyH_take (i := 9) (oi := { dst := some 94, op := Op.pick (Operand.tmp 89) (Operand.const (Value.bool true)) (Operand.tmp 93), type := 4, pos := "law.go:99", after := #[{ on := 4, ground := Ground.data }, { on := 8, ground := Ground.data }], guard := none }) (v := ?v1x8) rfl (by kernel_rfl) (by kernel_rfl) (by kernel_rfl) (fun _ _ _ h => h) (Or.inl ⟨by rfl, ?y1x8⟩) hn ?r1x8
  case y1x8 => (intro wS hS; (try go_simp); (try with_reducible rfl))
  try simp only [Act.put, List.setIfInBounds_toArray, List.set_cons_zero, List.set_cons_succ]
  refine wpAnyH_take (i := 10) (oi := { dst := some 95, op := Op.move (Operand.tmp 94), type := 4, pos := "law.go:99", after := #[{ on := 9, ground := Ground.data }, { on := 6, ground := Ground.chain }], guard := none }) (v := ?v1x9) rfl (by kernel_rfl) (by kernel_rfl) (by kernel_rfl) (fun _ _ _ h => h) (Or.inl ⟨by rfl, ?y1x9⟩) hn ?r1x9
  case y1x9 => (intro wS hS; (try go_simp); (try with_reducible rfl))
  try simp only [Act.put, List.setIfInBounds_toArray, List.set_cons_zero, List.set_cons_succ]
  refine wpAnyH_take (i := 11) (oi := { dst := some 96, op := Op.load 41 (Operand.tmp 7), type := 41, pos := "law.go:99", after := #[{ on := 10, ground := Ground.guard }], guard := some (10, false) }) (v := ?v1x10) rfl (by kernel_rfl) (by kernel_rfl) (by kernel_rfl) (fun _ _ _ h => h) (Or.inl ⟨by rfl, ?y1x10⟩) hn ?r1x10
  case y1x10 => (intro wS hS; have c0 : wS.cell? ⟨g7, 0, none⟩ = some (.int .u8 e.toNat) := cellAt hS.b7 0 rfl; have c1 : wS.cell? ⟨g7, 1, none⟩ = some (.bool th) := cellAt hS.b7 1 rfl; have c2 : wS.cell? ⟨g7, 2, none⟩ = some (.int .u32 (tmn : Nat)) := cellAt hS.b7 2 rfl; have c3 : wS.cell? ⟨g7, 3, none⟩ = some (.int .u32 (tmx : Nat)) := cellAt hS.b7 3 rfl; (try go_simp); (try with_reducible rfl))
  try simp only [Act.put, List.setIfInBounds_toArray, List.set_cons_zero, List.set_cons_succ]
  refine wpAnyH_take (i := 13) (oi := { dst := some 98, op := Op.move (Operand.tmp 11), type := 4, pos := "law.go:99", after := #[{ on := 10, ground := Ground.guard }], guard := some (10, false) }) (v := ?v1x11) rfl (by kernel_rfl) (by kernel_rfl) (by kernel_rfl) (fun _ _ _ h => h) (Or.inl ⟨by rfl, ?y1x11⟩) hn ?r1x11
  case y1x11 => (intro wS hS; (try go_simp); (try with_reducible rfl))
  try simp only [Act.put, List.setIfInBounds_toArray, List.set_cons_zero, List.set_cons_succ]
  refine wpAnyH_ready (rs := [12]) (by kernel_rfl) (by simp) ?_
  refine AllReadyH.cons (o := { dst := some 97, op := Op.call { callee := Callee.value (Operand.func 13), args := #[Operand.tmp 96], argTypes := #[41] }, type := 4, pos := "law.go:99", after := #[{ on := 11, ground := Ground.data }, { on := 10, ground := Ground.chain }, { on := 10, ground := Ground.guard }], guard := some (10, false) }) rfl (fun K hK => ?_) AllReadyH.nil
  go_simp
  refine (HTM.out _).mono ?_
  rintro e' ws ⟨rfl, hnq⟩
  go_wp2_with fail
  have hn := hn.new hnq
  refine hK.out _ _ (by first | exact hn | exact Upd.alloc hn _) (fun hn => ?_)
  clear hK K
  try simp only [Act.put, List.setIfInBounds_toArray, List.set_cons_zero, List.set_cons_succ]
  refine wpAnyH_take (i := 14) (oi := { dst := some 99, op := Op.binOp BinOp.neq 4 (Operand.tmp 97) (Operand.tmp 98) 4, type := 4, pos := "law.go:99", after := #[{ on := 12, ground := Ground.data }, { on := 13, ground := Ground.data }, { on := 10, ground := Ground.guard }], guard := some (10, false) }) (v := ?v1x12) rfl (by kernel_rfl) (by kernel_rfl) (by kernel_rfl) (fun _ _ _ h => h) (Or.inl ⟨by rfl, ?y1x12⟩) hn ?r1x12
  case y1x12 => (intro wS hS; (try go_simp); (try with_reducible rfl))
  try simp only [Act.put, List.setIfInBounds_toArray, List.set_cons_zero, List.set_cons_succ]
  refine wpAnyH_take (i := 15) (oi := { dst := some 100, op := Op.pick (Operand.tmp 95) (Operand.const (Value.bool true)) (Operand.tmp 99), type := 4, pos := "law.go:99", after := #[{ on := 10, ground := Ground.data }, { on := 14, ground := Ground.data }], guard := none }) (v := ?v1x13) rfl (by kernel_rfl) (by kernel_rfl) (by kernel_rfl) (fun _ _ _ h => h) (Or.inl ⟨by rfl, ?y1x13⟩) hn ?r1x13
  case y1x13 => (intro wS hS; (try go_simp); (try with_reducible rfl))
  try simp only [Act.put, List.setIfInBounds_toArray, List.set_cons_zero, List.set_cons_succ]
  refine wpAnyH_take (i := 16) (oi := { dst := some 101, op := Op.move (Operand.tmp 100), type := 4, pos := "law.go:99", after := #[{ on := 15, ground := Ground.data }, { on := 12, ground := Ground.chain }], guard := none }) (v := ?v1x14) rfl (by kernel_rfl) (by kernel_rfl) (by kernel_rfl) (fun _ _ _ h => h) (Or.inl ⟨by rfl, ?y1x14⟩) hn ?r1x14
  case y1x14 => (intro wS hS; (try go_simp); (try with_reducible rfl))
  try simp only [Act.put, List.setIfInBounds_toArray, List.set_cons_zero, List.set_cons_succ]
  refine wpAnyH_take (i := 17) (oi := { dst := some 102, op := Op.load 44 (Operand.tmp 8), type := 44, pos := "law.go:99", after := #[{ on := 16, ground := Ground.guard }], guard := some (16, false) }) (v := ?v1x15) rfl (by kernel_rfl) (by kernel_rfl) (by kernel_rfl) (fun _ _ _ h => h) (Or.inl ⟨by rfl, ?y1x15⟩) hn ?r1x15
  case y1x15 => (intro wS hS; have c0 : wS.cell? ⟨g8, 0, none⟩ = some (.int .u8 gt.toNat) := cellAt hS.b8 0 rfl; have c1 : wS.cell? ⟨g8, 1, none⟩ = some (.bool gm) := cellAt hS.b8 1 rfl; (try go_simp); (try with_reducible rfl))
  try simp only [Act.put, List.setIfInBounds_toArray, List.set_cons_zero, List.set_cons_succ]
  refine wpAnyH_take (i := 19) (oi := { dst := some 104, op := Op.fieldAddr 32 (Operand.tmp 2) 4, type := 0, pos := "law.go:99", after := #[{ on := 16, ground := Ground.guard }], guard := some (16, false) }) (v := ?v1x16) rfl (by kernel_rfl) (by kernel_rfl) (by kernel_rfl) (fun _ _ _ h => h) (Or.inl ⟨by rfl, ?y1x16⟩) hn ?r1x16
  case y1x16 => (intro wS hS; (try go_simp); (try with_reducible rfl))
  try simp only [Act.put, List.setIfInBounds_toArray, List.set_cons_zero, List.set_cons_succ]
  refine wpAnyH_take (i := 20) (oi := { dst := some 105, op := Op.fieldAddr 30 (Operand.tmp 104) 0, type := 0, pos := "law.go:99", after := #[{ on := 19, ground := Ground.data }, { on := 16, ground := Ground.guard }], guard := some (16, false) }) (v := ?v1x17) rfl (by kernel_rfl) (by kernel_rfl) (by kernel_rfl) (fun _ _ _ h => h) (Or.inl ⟨by rfl, ?y1x17⟩) hn ?r1x17
  case y1x17 => (intro wS hS; (try go_simp); (try with_reducible rfl))
  try simp only [Act.put, List.setIfInBounds_toArray, List.set_cons_zero, List.set_cons_succ]
  refine wpAnyH_take (i := 21) (oi := { dst := some 106, op := Op.load 5 (Operand.tmp 105), type := 5, pos := "law.go:99", after := #[{ on := 20, ground := Ground.data }, { on := 16, ground := Ground.guard }], guard := some (16, false) }) (v := ?v1x18) rfl (by kernel_rfl) (by kernel_rfl) (by kernel_rfl) (fun _ _ _ h => h) (Or.inl ⟨by rfl, ?y1x18⟩) hn ?r1x18
  case y1x18 => (intro wS hS; have c0 := hS.tw.atx 10 rfl; (try go_simp); (try with_reducible rfl))
  try simp only [Act.put, List.setIfInBounds_toArray, List.set_cons_zero, List.set_cons_succ]
  refine wpAnyH_ready (rs := [18]) (by kernel_rfl) (by simp) ?_
  refine AllReadyH.cons (o := { dst := some 103, op := Op.call { callee := Callee.value (Operand.func 14), args := #[Operand.tmp 102], argTypes := #[44] }, type := 4, pos := "law.go:99", after := #[{ on := 17, ground := Ground.data }, { on := 16, ground := Ground.chain }, { on := 16, ground := Ground.guard }], guard := some (16, false) }) rfl (fun K hK => ?_) AllReadyH.nil
  go_simp
  refine (HGT.out _).mono ?_
  rintro e' wt ⟨rfl, hnq⟩
  go_wp2_with fail
  have hn := hn.new hnq
  refine hK.out _ _ (by first | exact hn | exact Upd.alloc hn _) (fun hn => ?_)
  clear hK K
  try simp only [Act.put, List.setIfInBounds_toArray, List.set_cons_zero, List.set_cons_succ]
  refine wpAnyH_ready (rs := [22]) (by kernel_rfl) (by simp) ?_
  refine AllReadyH.cons (o := { dst := some 107, op := Op.call { callee := Callee.value (Operand.func 15), args := #[Operand.tmp 106], argTypes := #[5] }, type := 4, pos := "law.go:99", after := #[{ on := 21, ground := Ground.data }, { on := 18, ground := Ground.chain }, { on := 16, ground := Ground.guard }], guard := some (16, false) }) rfl (fun K hK => ?_) AllReadyH.nil
  go_simp
  refine (HGV.out _).mono ?_
  rintro e' wt2 ⟨rfl, rfl⟩
  go_wp2_with fail
  refine hK.out _ _ (by first | exact hn | exact Upd.alloc hn _) (fun hn => ?_)
  clear hK K
  try simp only [Act.put, List.setIfInBounds_toArray, List.set_cons_zero, List.set_cons_succ]
  refine wpAnyH_take (i := 23) (oi := { dst := some 108, op := Op.binOp BinOp.neq 4 (Operand.tmp 103) (Operand.tmp 107) 4, type := 4, pos := "law.go:99", after := #[{ on := 18, ground := Ground.data }, { on := 22, ground := Ground.data }, { on := 16, ground := Ground.guard }], guard := some (16, false) }) (v := ?v1x19) rfl (by kernel_rfl) (by kernel_rfl) (by kernel_rfl) (fun _ _ _ h => h) (Or.inl ⟨by rfl, ?y1x19⟩) hn ?r1x19
  case y1x19 => (intro wS hS; (try go_simp); (try with_reducible rfl))
  try simp only [Act.put, List.setIfInBounds_toArray, List.set_cons_zero, List.set_cons_succ]
  refine wpAnyH_take (i := 24) (oi := { dst := some 109, op := Op.pick (Operand.tmp 101) (Operand.const (Value.bool true)) (Operand.tmp 108), type := 4, pos := "law.go:99", after := #[{ on := 16, ground := Ground.data }, { on := 23, ground := Ground.data }], guard := none }) (v := ?v1x20) rfl (by kernel_rfl) (by kernel_rfl) (by kernel_rfl) (fun _ _ _ h => h) (Or.inl ⟨by rfl, ?y1x20⟩) hn ?r1x20
  case y1x20 => (intro wS hS; (try go_simp); (try with_reducible rfl))
  try simp only [Act.put, List.setIfInBounds_toArray, List.set_cons_zero, List.set_cons_succ]
  refine wpAnyH_take (i := 25) (oi := { dst := some 110, op := Op.move (Operand.tmp 109), type := 4, pos := "law.go:99", after := #[{ on := 24, ground := Ground.data }, { on := 22, ground := Ground.chain }], guard := none }) (v := ?v1x21) rfl (by kernel_rfl) (by kernel_rfl) (by kernel_rfl) (fun _ _ _ h => h) (Or.inl ⟨by rfl, ?y1x21⟩) hn ?r1x21
  case y1x21 => (intro wS hS; (try go_simp); (try with_reducible rfl))
  try simp only [Act.put, List.setIfInBounds_toArray, List.set_cons_zero, List.set_cons_succ]
  refine wpAnyH_take (i := 26) (oi := { dst := some 111, op := Op.fieldAddr 32 (Operand.tmp 2) 0, type := 0, pos := "law.go:99", after := #[{ on := 25, ground := Ground.guard }], guard := some (25, false) }) (v := ?v1x22) rfl (by kernel_rfl) (by kernel_rfl) (by kernel_rfl) (fun _ _ _ h => h) (Or.inl ⟨by rfl, ?y1x22⟩) hn ?r1x22
  case y1x22 => (intro wS hS; (try go_simp); (try with_reducible rfl))
  try simp only [Act.put, List.setIfInBounds_toArray, List.set_cons_zero, List.set_cons_succ]
  refine wpAnyH_take (i := 27) (oi := { dst := some 112, op := Op.load 5 (Operand.tmp 111), type := 5, pos := "law.go:99", after := #[{ on := 26, ground := Ground.data }, { on := 25, ground := Ground.guard }], guard := some (25, false) }) (v := ?v1x23) rfl (by kernel_rfl) (by kernel_rfl) (by kernel_rfl) (fun _ _ _ h => h) (Or.inl ⟨by rfl, ?y1x23⟩) hn ?r1x23
  case y1x23 => (intro wS hS; have c0 := hS.tw.atx 0 rfl; (try go_simp); (try with_reducible rfl))
  try simp only [Act.put, List.setIfInBounds_toArray, List.set_cons_zero, List.set_cons_succ]
  refine wpAnyH_take (i := 29) (oi := { dst := some 114, op := Op.fieldAddr 32 (Operand.tmp 2) 0, type := 0, pos := "law.go:99", after := #[{ on := 25, ground := Ground.guard }], guard := some (25, false) }) (v := ?v1x24) rfl (by kernel_rfl) (by kernel_rfl) (by kernel_rfl) (fun _ _ _ h => h) (Or.inl ⟨by rfl, ?y1x24⟩) hn ?r1x24
  case y1x24 => (intro wS hS; (try go_simp); (try with_reducible rfl))
  try simp only [Act.put, List.setIfInBounds_toArray, List.set_cons_zero, List.set_cons_succ]
  refine wpAnyH_take (i := 30) (oi := { dst := some 115, op := Op.load 5 (Operand.tmp 114), type := 5, pos := "law.go:99", after := #[{ on := 29, ground := Ground.data }, { on := 25, ground := Ground.guard }], guard := some (25, false) }) (v := ?v1x25) rfl (by kernel_rfl) (by kernel_rfl) (by kernel_rfl) (fun _ _ _ h => h) (Or.inl ⟨by rfl, ?y1x25⟩) hn ?r1x25
  case y1x25 => (intro wS hS; have c0 := hS.tw.atx 0 rfl; (try go_simp); (try with_reducible rfl))
  try simp only [Act.put, List.setIfInBounds_toArray, List.set_cons_zero, List.set_cons_succ]
  refine wpAnyH_ready (rs := [28]) (by kernel_rfl) (by simp) ?_
  refine AllReadyH.cons (o := { dst := some 113, op := Op.call { callee := Callee.value (Operand.func 16), args := #[Operand.tmp 112], argTypes := #[39] }, type := 4, pos := "law.go:99", after := #[{ on := 27, ground := Ground.data }, { on := 25, ground := Ground.chain }, { on := 25, ground := Ground.guard }], guard := some (25, false) }) rfl (fun K hK => ?_) AllReadyH.nil
  go_simp
  refine (HV1.out _).mono ?_
  rintro e' wt3 ⟨rfl, rfl⟩
  go_wp2_with fail
  refine hK.out _ _ (by first | exact hn | exact Upd.alloc hn _) (fun hn => ?_)
  clear hK K
  try simp only [Act.put, List.setIfInBounds_toArray, List.set_cons_zero, List.set_cons_succ]
  refine wpAnyH_ready (rs := [31]) (by kernel_rfl) (by simp) ?_
  refine AllReadyH.cons (o := { dst := some 116, op := Op.call { callee := Callee.value (Operand.func 15), args := #[Operand.tmp 115], argTypes := #[5] }, type := 4, pos := "law.go:99", after := #[{ on := 30, ground := Ground.data }, { on := 28, ground := Ground.chain }, { on := 25, ground := Ground.guard }], guard := some (25, false) }) rfl (fun K hK => ?_) AllReadyH.nil
  go_simp
  refine (HV2.out _).mono ?_
  rintro e' wt4 ⟨rfl, rfl⟩
  go_wp2_with fail
  refine hK.out _ _ (by first | exact hn | exact Upd.alloc hn _) (fun hn => ?_)
  clear hK K
  try simp only [Act.put, List.setIfInBounds_toArray, List.set_cons_zero, List.set_cons_succ]
  refine wpAnyH_take (i := 32) (oi := { dst := some 117, op := Op.binOp BinOp.neq 4 (Operand.tmp 113) (Operand.tmp 116) 4, type := 4, pos := "law.go:99", after := #[{ on := 28, ground := Ground.data }, { on := 31, ground := Ground.data }, { on := 25, ground := Ground.guard }], guard := some (25, false) }) (v := ?v1x26) rfl (by kernel_rfl) (by kernel_rfl) (by kernel_rfl) (fun _ _ _ h => h) (Or.inl ⟨by rfl, ?y1x26⟩) hn ?r1x26
  case y1x26 => (intro wS hS; (try go_simp); (try with_reducible rfl))
  try simp only [Act.put, List.setIfInBounds_toArray, List.set_cons_zero, List.set_cons_succ]
  refine wpAnyH_take (i := 33) (oi := { dst := some 118, op := Op.pick (Operand.tmp 110) (Operand.const (Value.bool true)) (Operand.tmp 117), type := 4, pos := "law.go:99", after := #[{ on := 25, ground := Ground.data }, { on := 32, ground := Ground.data }], guard := none }) (v := ?v1x27) rfl (by kernel_rfl) (by kernel_rfl) (by kernel_rfl) (fun _ _ _ h => h) (Or.inl ⟨by rfl, ?y1x27⟩) hn ?r1x27
  case y1x27 => (intro wS hS; (try go_simp); (try with_reducible rfl))
  try simp only [Act.put, List.setIfInBounds_toArray, List.set_cons_zero, List.set_cons_succ]
  refine wpAnyH_take (i := 34) (oi := { dst := some 119, op := Op.move (Operand.tmp 118), type := 4, pos := "law.go:99", after := #[{ on := 33, ground := Ground.data }, { on := 31, ground := Ground.chain }], guard := none }) (v := ?v1x28) rfl (by kernel_rfl) (by kernel_rfl) (by kernel_rfl) (fun _ _ _ h => h) (Or.inl ⟨by rfl, ?y1x28⟩) hn ?r1x28
  case y1x28 => (intro wS hS; (try go_simp); (try with_reducible rfl))
  try simp only [Act.put, List.setIfInBounds_toArray, List.set_cons_zero, List.set_cons_succ]
  refine wpAnyH_take (i := 35) (oi := { dst := some 120, op := Op.fieldAddr 32 (Operand.tmp 2) 0, type := 0, pos := "law.go:99", after := #[{ on := 34, ground := Ground.guard }], guard := some (34, false) }) (v := ?v1x29) rfl (by kernel_rfl) (by kernel_rfl) (by kernel_rfl) (fun _ _ _ h => h) (Or.inl ⟨by rfl, ?y1x29⟩) hn ?r1x29
  case y1x29 => (intro wS hS; (try go_simp); (try with_reducible rfl))
  try simp only [Act.put, List.setIfInBounds_toArray, List.set_cons_zero, List.set_cons_succ]
  refine wpAnyH_take (i := 36) (oi := { dst := some 121, op := Op.load 5 (Operand.tmp 120), type := 5, pos := "law.go:99", after := #[{ on := 35, ground := Ground.data }, { on := 34, ground := Ground.guard }], guard := some (34, false) }) (v := ?v1x30) rfl (by kernel_rfl) (by kernel_rfl) (by kernel_rfl) (fun _ _ _ h => h) (Or.inl ⟨by rfl, ?y1x30⟩) hn ?r1x30
  case y1x30 => (intro wS hS; have c0 := hS.tw.atx 0 rfl; (try go_simp); (try with_reducible rfl))
  try simp only [Act.put, List.setIfInBounds_toArray, List.set_cons_zero, List.set_cons_succ]
  refine wpAnyH_take (i := 38) (oi := { dst := some 123, op := Op.fieldAddr 32 (Operand.tmp 2) 0, type := 0, pos := "law.go:99", after := #[{ on := 34, ground := Ground.guard }], guard := some (34, false) }) (v := ?v1x31) rfl (by kernel_rfl) (by kernel_rfl) (by kernel_rfl) (fun _ _ _ h => h) (Or.inl ⟨by rfl, ?y1x31⟩) hn ?r1x31
  case y1x31 => (intro wS hS; (try go_simp); (try with_reducible rfl))
  try simp only [Act.put, List.setIfInBounds_toArray, List.set_cons_zero, List.set_cons_succ]
  refine wpAnyH_take (i := 39) (oi := { dst := some 124, op := Op.load 5 (Operand.tmp 123), type := 5, pos := "law.go:99", after := #[{ on := 38, ground := Ground.data }, { on := 34, ground := Ground.guard }], guard := some (34, false) }) (v := ?v1x32) rfl (by kernel_rfl) (by kernel_rfl) (by kernel_rfl) (fun _ _ _ h => h) (Or.inl ⟨by rfl, ?y1x32⟩) hn ?r1x32
  case y1x32 => (intro wS hS; have c0 := hS.tw.atx 0 rfl; (try go_simp); (try with_reducible rfl))
  try simp only [Act.put, List.setIfInBounds_toArray, List.set_cons_zero, List.set_cons_succ]
  refine wpAnyH_ready (rs := [37]) (by kernel_rfl) (by simp) ?_
  refine AllReadyH.cons (o := { dst := some 122, op := Op.call { callee := Callee.value (Operand.func 17), args := #[Operand.tmp 121], argTypes := #[39] }, type := 4, pos := "law.go:99", after := #[{ on := 36, ground := Ground.data }, { on := 34, ground := Ground.chain }, { on := 34, ground := Ground.guard }], guard := some (34, false) }) rfl (fun K hK => ?_) AllReadyH.nil
  go_simp
  refine (HV3.out _).mono ?_
  rintro e' wt5 ⟨rfl, rfl⟩
  go_wp2_with fail
  refine hK.out _ _ (by first | exact hn | exact Upd.alloc hn _) (fun hn => ?_)
  clear hK K
  try simp only [Act.put, List.setIfInBounds_toArray, List.set_cons_zero, List.set_cons_succ]
  refine wpAnyH_ready (rs := [40]) (by kernel_rfl) (by simp) ?_
  refine AllReadyH.cons (o := { dst := some 125, op := Op.call { callee := Callee.value (Operand.func 10), args := #[Operand.tmp 124], argTypes := #[5] }, type := 4, pos := "law.go:99", after := #[{ on := 39, ground := Ground.data }, { on := 37, ground := Ground.chain }, { on := 34, ground := Ground.guard }], guard := some (34, false) }) rfl (fun K hK => ?_) AllReadyH.nil
  go_simp
  refine (HV4.out _).mono ?_
  rintro e' wt6 ⟨rfl, rfl⟩
  go_wp2_with fail
  refine hK.out _ _ (by first | exact hn | exact Upd.alloc hn _) (fun hn => ?_)
  clear hK K
  try simp only [Act.put, List.setIfInBounds_toArray, List.set_cons_zero, List.set_cons_succ]
  refine wpAnyH_take (i := 41) (oi := { dst := some 126, op := Op.binOp BinOp.neq 4 (Operand.tmp 122) (Operand.tmp 125) 4, type := 4, pos := "law.go:99", after := #[{ on := 37, ground := Ground.data }, { on := 40, ground := Ground.data }, { on := 34, ground := Ground.guard }], guard := some (34, false) }) (v := ?v1x33) rfl (by kernel_rfl) (by kernel_rfl) (by kernel_rfl) (fun _ _ _ h => h) (Or.inl ⟨by rfl, ?y1x33⟩) hn ?r1x33
  case y1x33 => (intro wS hS; (try go_simp); (try with_reducible rfl))
  try simp only [Act.put, List.setIfInBounds_toArray, List.set_cons_zero, List.set_cons_succ]
  refine wpAnyH_take (i := 42) (oi := { dst := some 127, op := Op.pick (Operand.tmp 119) (Operand.const (Value.bool true)) (Operand.tmp 126), type := 4, pos := "law.go:99", after := #[{ on := 34, ground := Ground.data }, { on := 41, ground := Ground.data }], guard := none }) (v := ?v1x34) rfl (by kernel_rfl) (by kernel_rfl) (by kernel_rfl) (fun _ _ _ h => h) (Or.inl ⟨by rfl, ?y1x34⟩) hn ?r1x34
  case y1x34 => (intro wS hS; (try go_simp); (try with_reducible rfl))
  try simp only [Act.put, List.setIfInBounds_toArray, List.set_cons_zero, List.set_cons_succ]
  refine wpAnyH_take (i := 43) (oi := { dst := some 128, op := Op.move (Operand.tmp 127), type := 4, pos := "law.go:99", after := #[{ on := 42, ground := Ground.data }, { on := 40, ground := Ground.chain }], guard := none }) (v := ?v1x35) rfl (by kernel_rfl) (by kernel_rfl) (by kernel_rfl) (fun _ _ _ h => h) (Or.inl ⟨by rfl, ?y1x35⟩) hn ?r1x35
  case y1x35 => (intro wS hS; (try go_simp); (try with_reducible rfl))
  try simp only [Act.put, List.setIfInBounds_toArray, List.set_cons_zero, List.set_cons_succ]
  refine wpAnyH_take (i := 44) (oi := { dst := some 129, op := Op.load 35 (Operand.tmp 5), type := 35, pos := "law.go:99", after := #[{ on := 43, ground := Ground.guard }], guard := some (43, false) }) (v := ?v1x36) rfl (by kernel_rfl) (by kernel_rfl) (by kernel_rfl) (fun _ _ _ h => h) (Or.inl ⟨by rfl, ?y1x36⟩) hn ?r1x36
  case y1x36 => (intro wS hS; have c0 : wS.cell? ⟨g5, 0, none⟩ = some (.slice y1 (lb p).length k1) := cellAt hS.b5 0 rfl; have c1 : wS.cell? ⟨g5, 1, none⟩ = some (.slice y2 (lb r).length k2) := cellAt hS.b5 1 rfl; (try go_simp); (try with_reducible rfl))
  try simp only [Act.put, List.setIfInBounds_toArray, List.set_cons_zero, List.set_cons_succ]
  refine wpAnyH_take (i := 45) (oi := { dst := some 130, op := Op.load 23 (Operand.tmp 3), type := 23, pos := "law.go:99", after := #[{ on := 43, ground := Ground.guard }], guard := some (43, false) }) (v := ?v1x37) rfl (by kernel_rfl) (by kernel_rfl) (by kernel_rfl) (fun _ _ _ h => h) (Or.inl ⟨by rfl, ?y1x37⟩) hn ?r1x37
  case y1x37 => (intro wS hS; have c0 := hS.tw.ato 0 rfl; have c1 := hS.tw.ato 1 rfl; (try go_simp); (try with_reducible rfl))
  try simp only [Act.put, List.setIfInBounds_toArray, List.set_cons_zero, List.set_cons_succ]
  refine wpAnyH_take (i := 48) (oi := { dst := some 133, op := Op.fieldAddr 32 (Operand.tmp 2) 1, type := 0, pos := "law.go:99", after := #[{ on := 43, ground := Ground.guard }], guard := some (43, false) }) (v := ?v1x38) rfl (by kernel_rfl) (by kernel_rfl) (by kernel_rfl) (fun _ _ _ h => h) (Or.inl ⟨by rfl, ?y1x38⟩) hn ?r1x38
  case y1x38 => (intro wS hS; (try go_simp); (try with_reducible rfl))
  try simp only [Act.put, List.setIfInBounds_toArray, List.set_cons_zero, List.set_cons_succ]
  refine wpAnyH_take (i := 49) (oi := { dst := some 134, op := Op.load 23 (Operand.tmp 133), type := 23, pos := "law.go:99", after := #[{ on := 48, ground := Ground.data }, { on := 43, ground := Ground.guard }], guard := some (43, false) }) (v := ?v1x39) rfl (by kernel_rfl) (by kernel_rfl) (by kernel_rfl) (fun _ _ _ h => h) (Or.inl ⟨by rfl, ?y1x39⟩) hn ?r1x39
  case y1x39 => (intro wS hS; have c0 := hS.tw.atx 1 rfl; have c1 := hS.tw.atx 2 rfl; (try go_simp); (try with_reducible rfl))
  try simp only [Act.put, List.setIfInBounds_toArray, List.set_cons_zero, List.set_cons_succ]
  refine wpAnyH_take (i := 50) (oi := { dst := some 135, op := Op.load 23 (Operand.tmp 3), type := 23, pos := "law.go:99", after := #[{ on := 43, ground := Ground.guard }], guard := some (43, false) }) (v := ?v1x40) rfl (by kernel_rfl) (by kernel_rfl) (by kernel_rfl) (fun _ _ _ h => h) (Or.inl ⟨by rfl, ?y1x40⟩) hn ?r1x40
  case y1x40 => (intro wS hS; have c0 := hS.tw.ato 0 rfl; have c1 := hS.tw.ato 1 rfl; (try go_simp); (try with_reducible rfl))
  try simp only [Act.put, List.setIfInBounds_toArray, List.set_cons_zero, List.set_cons_succ]
  refine wpAnyH_take (i := 51) (oi := { dst := some 136, op := Op.binOp BinOp.eql 23 (Operand.tmp 134) (Operand.tmp 135) 23, type := 4, pos := "law.go:99", after := #[{ on := 49, ground := Ground.data }, { on := 50, ground := Ground.data }, { on := 43, ground := Ground.guard }], guard := some (43, false) }) (v := ?v1x41) rfl (by kernel_rfl) (by kernel_rfl) (by kernel_rfl) (fun _ _ _ h => h) (Or.inl ⟨by rfl, ?y1x41⟩) hn ?r1x41
  case y1x41 => (intro wS hS; go_simp; rw [iteFn, HDC.out]; (try go_simp); (try with_reducible rfl))
  try simp only [Act.put, List.setIfInBounds_toArray, List.set_cons_zero, List.set_cons_succ]
  refine wpAnyH_ready (rs := [46]) (by kernel_rfl) (by simp) ?_
  refine AllReadyH.cons (o := { dst := some 131, op := Op.call { callee := Callee.value (Operand.func 5), args := #[Operand.tmp 130], argTypes := #[23] }, type := 35, pos := "law.go:99", after := #[{ on := 45, ground := Ground.data }, { on := 43, ground := Ground.chain }, { on := 43, ground := Ground.guard }], guard := some (43, false) }) rfl (fun K hK => ?_) AllReadyH.nil
  go_simp
  refine (HOF.out _).mono ?_
  rintro e' wu ⟨u3, u4, rfl, hr3, hr4, -, -, hnq⟩
  obtain ⟨y3, n3, k3, rfl⟩ : ∃ a n c, u3 = .slice a n c := (by obtain ⟨a, c, e⟩ := hr3.rd.shape; exact ⟨a, _, c, e⟩)
  obtain ⟨y4, n4, k4, rfl⟩ : ∃ a n c, u4 = .slice a n c := (by obtain ⟨a, c, e⟩ := hr4.rd.shape; exact ⟨a, _, c, e⟩)
  go_wp2_with fail
  have hn := hn.new hnq
  refine hK.out _ _ (by first | exact hn | exact Upd.alloc hn _) (fun hn => ?_)
  clear hK K
  try simp only [Act.put, List.setIfInBounds_toArray, List.set_cons_zero, List.set_cons_succ]
  refine wpAnyH_ready (rs := [47]) (by kernel_rfl) (by simp) ?_
  refine AllReadyH.cons (o := { dst := some 132, op := Op.call { callee := Callee.value (Operand.func 18), args := #[Operand.tmp 129, Operand.tmp 131], argTypes := #[35, 35] }, type := 4, pos := "law.go:99", after := #[{ on := 44, ground := Ground.data }, { on := 46, ground := Ground.data }, { on := 46, ground := Ground.chain }, { on := 43, ground := Ground.guard }], guard := some (43, false) }) rfl (fun K hK => ?_) AllReadyH.nil
  go_simp
  refine (HSM.out _ _ _ _ _ hn.r1.rd hn.r2.rd hr3.rd hr4.rd).mono ?_
  rintro e' wv ⟨rfl, hnq⟩
  go_wp2_with fail
  have hn := hn.new hnq
  refine hK.out _ _ (by first | exact hn | exact Upd.alloc hn _) (fun hn => ?_)
  clear hK K
  try simp only [Act.put, List.setIfInBounds_toArray, List.set_cons_zero, List.set_cons_succ]
  refine wpAnyH_take (i := 52) (oi := { dst := some 137, op := Op.binOp BinOp.neq 4 (Operand.tmp 132) (Operand.tmp 136) 4, type := 4, pos := "law.go:99", after := #[{ on := 47, ground := Ground.data }, { on := 51, ground := Ground.data }, { on := 43, ground := Ground.guard }], guard := some (43, false) }) (v := ?v1x42) rfl (by kernel_rfl) (by kernel_rfl) (by kernel_rfl) (fun _ _ _ h => h) (Or.inl ⟨by rfl, ?y1x42⟩) hn ?r1x42
  case y1x42 => (intro wS hS; (try go_simp); (try with_reducible rfl))
  try simp only [Act.put, List.setIfInBounds_toArray, List.set_cons_zero, List.set_cons_succ]
  refine wpAnyH_take (i := 53) (oi := { dst := some 138, op := Op.pick (Operand.tmp 128) (Operand.const (Value.bool true)) (Operand.tmp 137), type := 4, pos := "law.go:99", after := #[{ on := 43, ground := Ground.data }, { on := 52, ground := Ground.data }], guard := none }) (v := ?v1x43) rfl (by kernel_rfl) (by kernel_rfl) (by kernel_rfl) (fun _ _ _ h => h) (Or.inl ⟨by rfl, ?y1x43⟩) hn ?r1x43
  case y1x43 => (intro wS hS; (try go_simp); (try with_reducible rfl))
  try simp only [Act.put, List.setIfInBounds_toArray, List.set_cons_zero, List.set_cons_succ]
  refine wpAnyH_done (by kernel_rfl) ?_ _
  refine NoPanic.normal ?_
  exact HK.out _ _ _ _ _ _ _ _ _ _ _ _ _ _ _ _ _ _ _ _ _ _ _ _ _ _ _ _ _ _ _ _ _ _ _ _ _ _ _ _ _ _ _ _ _ _ _ _ _ _ _ _ _ _ hn

end Go.Proofs.Ytjagimlmclejeaa
