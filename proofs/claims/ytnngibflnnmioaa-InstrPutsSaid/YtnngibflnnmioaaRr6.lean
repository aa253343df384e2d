/-
  Region 6 of the document's Right: texts, and what a block is like.
-/
import Derived.Test.YtnngibflnnmioaaRr4
namespace Go.Proofs.Ytnngibflnnmioaa
open Go.RowKit Go.Proofs.Leb Go.Proofs.Own
set_option maxRecDepth 1000000
set_option maxHeartbeats 16000000

noncomputable def r6code : Code := (Try.f7.body.bind (findRegion 6)).getD .skip
theorem r6_any {K : Act → World → Prop} {Q : Exit → Act → World → Prop} (p c k t i x y n lane s : Int) (li : List Nat) (raw ty : ByteArray) (al : Option Addr) (cl g : Nat) (wb : World) (hb0 : BoxR wb g ⟨p, c, k, t, i, x, y, li, n, raw, lane, ty⟩ (.slice al li.length cl)) (c0 c2 c4 c5 c6 c7 c8 c9 c10 c11 c12 c13 c14 c15 c16 c17 c18 c19 c20 c21 c22 c23 c24 c25 c26 c27 c28 c29 c30 c31 c32 c33 c34 c35 c36 c37 c38 c39 c40 c41 c42 c43 c44 c45 c46 c47 c48 c49 c50 c51 c52 c53 c54 c55 c56 c57 c58 c59 c60 c61 c62 c63 c64 c65 c66 c67 c68 c69 c70 c71 c72 c73 c74 c75 c76 c77 c78 c79 c80 c81 c82 c83 c84 c85 c86 c87 c88 c89 c90 c91 c92 c93 c94 c95 c96 c97 c98 c99 c100 c101 c102 c103 c104 c105 c106 c107 c108 c109 c110 c111 c112 c113 c114 c115 c116 c117 c118 c119 c120 c121 c122 c123 c124 c125 c126 c127 c128 c129 c130 c131 c132 c133 c134 c135 c136 c137 c138 c139 c140 c141 c142 c143 c144 c145 c146 c147 c148 c149 c150 c151 c152 c153 c154 c155 c156 c157 c158 c159 c160 c161 c162 c163 c164 c165 c166 c167 c168 c169 c170 c171 c172 c173 c174 c175 c176 c177 c178 c179 c180 c181 c182 c183 c184 c185 c186 c187 c188 c189 c190 c191 c192 c193 c194 c195 c196 c197 c198 c199 c200 c201 c202 c203 c204 c205 c206 c207 c208 c209 c210 c211 c212 c213 c214 c215 : Value)
    (hK : ∀ (v69 v70 v71 v72 v73 v74 v75 v76 v77 v78 v79 v80 v81 v82 v83 v84 v85 v86 v87 v88 v89 v90 v91 v92 v93 v94 v95 v96 v97 v98 v99 v100 v101 v102 v103 v104 v105 v106 v107 v108 : Value) (b : Bool) (w2 : World), (b = true ↔ C2 s ⟨p, c, k, t, i, x, y, li, n, raw, lane, ty⟩) → New wb w2 → K ⟨#[c0, .pointer (some ⟨g, 0, none⟩), c2, .int .i64 s, c4, c5, c6, c7, c8, c9, c10, c11, c12, c13, c14, c15, c16, c17, c18, c19, c20, c21, c22, c23, c24, c25, c26, c27, c28, c29, c30, c31, c32, c33, c34, c35, c36, c37, c38, c39, c40, c41, c42, c43, c44, c45, c46, c47, c48, c49, c50, c51, c52, c53, c54, c55, c56, c57, c58, c59, c60, c61, c62, c63, c64, c65, c66, c67, c68, v69, v70, v71, v72, v73, v74, v75, v76, v77, v78, v79, v80, v81, v82, v83, v84, v85, v86, v87, v88, v89, v90, v91, v92, v93, v94, v95, v96, v97, v98, v99, v100, v101, v102, v103, v104, v105, v106, v107, v108, .bool b, c110, c111, c112, c113, c114, c115, c116, c117, c118, c119, c120, c121, c122, c123, c124, c125, c126, c127, c128, c129, c130, c131, c132, c133, c134, c135, c136, c137, c138, c139, c140, c141, c142, c143, c144, c145, c146, c147, c148, c149, c150, c151, c152, c153, c154, c155, c156, c157, c158, c159, c160, c161, c162, c163, c164, c165, c166, c167, c168, c169, c170, c171, c172, c173, c174, c175, c176, c177, c178, c179, c180, c181, c182, c183, c184, c185, c186, c187, c188, c189, c190, c191, c192, c193, c194, c195, c196, c197, c198, c199, c200, c201, c202, c203, c204, c205, c206, c207, c208, c209, c210, c211, c212, c213, c214, c215], []⟩ w2) :
    Code.wp Try.prog r6code (Exit.then K Q) ⟨#[c0, .pointer (some ⟨g, 0, none⟩), c2, .int .i64 s, c4, c5, c6, c7, c8, c9, c10, c11, c12, c13, c14, c15, c16, c17, c18, c19, c20, c21, c22, c23, c24, c25, c26, c27, c28, c29, c30, c31, c32, c33, c34, c35, c36, c37, c38, c39, c40, c41, c42, c43, c44, c45, c46, c47, c48, c49, c50, c51, c52, c53, c54, c55, c56, c57, c58, c59, c60, c61, c62, c63, c64, c65, c66, c67, c68, c69, c70, c71, c72, c73, c74, c75, c76, c77, c78, c79, c80, c81, c82, c83, c84, c85, c86, c87, c88, c89, c90, c91, c92, c93, c94, c95, c96, c97, c98, c99, c100, c101, c102, c103, c104, c105, c106, c107, c108, c109, c110, c111, c112, c113, c114, c115, c116, c117, c118, c119, c120, c121, c122, c123, c124, c125, c126, c127, c128, c129, c130, c131, c132, c133, c134, c135, c136, c137, c138, c139, c140, c141, c142, c143, c144, c145, c146, c147, c148, c149, c150, c151, c152, c153, c154, c155, c156, c157, c158, c159, c160, c161, c162, c163, c164, c165, c166, c167, c168, c169, c170, c171, c172, c173, c174, c175, c176, c177, c178, c179, c180, c181, c182, c183, c184, c185, c186, c187, c188, c189, c190, c191, c192, c193, c194, c195, c196, c197, c198, c199, c200, c201, c202, c203, c204, c205, c206, c207, c208, c209, c210, c211, c212, c213, c214, c215], []⟩ wb := by
  have HK := hid hK
  clear hK
  have HB1 := hid hb0
  clear hb0
  obtain ⟨br, hbr⟩ : ∃ b, inR s = b := ⟨_, rfl⟩
  have HIR : Hid (∀ W : World, Calls Try.prog 25 #[.int .i64 s, .slice (some ⟨W.heap.size, 0, none⟩) 4 4] (W.alloc (.cells #[.int .i64 11, .int .i64 12, .int .i64 13, .int .i64 14] 3)) (IsPost br (W.alloc (.cells #[.int .i64 11, .int .i64 12, .int .i64 13, .int .i64 14] 3)))) := fun W => by
    rw [← hbr]
    exact in_ints s _ [11, 12, 13, 14] _ (RdM.lit .i64 W [11, 12, 13, 14] 3 4 (by decide) [.int .i64 11, .int .i64 12, .int .i64 13, .int .i64 14] rfl (by decide)) (by decide)
  have KR : Hid (br = true ↔ (s = 11 ∨ s = 12 ∨ s = 13 ∨ s = 14)) := by show br = true ↔ _; rw [← hbr]; exact inR_iff s
  clear hbr
  conv => arg 2; whnf
  obtain ⟨dk, gk⟩ : ∃ d, (k != 0) = d := ⟨_, rfl⟩
  have Kk : Hid (dk = true ↔ k ≠ 0) := by show dk = true ↔ k ≠ 0; rw [← gk]; exact bne_iff_ne
  obtain ⟨dt, gt⟩ : ∃ d, (t != 0) = d := ⟨_, rfl⟩
  have Kt : Hid (dt = true ↔ t ≠ 0) := by show dt = true ↔ t ≠ 0; rw [← gt]; exact bne_iff_ne
  obtain ⟨di, gi⟩ : ∃ d, (i != 0) = d := ⟨_, rfl⟩
  have Ki : Hid (di = true ↔ i ≠ 0) := by show di = true ↔ i ≠ 0; rw [← gi]; exact bne_iff_ne
  obtain ⟨ds17, gs17⟩ : ∃ d, (s != 17) = d := ⟨_, rfl⟩
  have Ks17 : Hid (ds17 = true ↔ s ≠ 17) := by show ds17 = true ↔ s ≠ 17; rw [← gs17]; exact bne_iff_ne
  obtain ⟨ds18, gs18⟩ : ∃ d, (s != 18) = d := ⟨_, rfl⟩
  have Ks18 : Hid (ds18 = true ↔ s ≠ 18) := by show ds18 = true ↔ s ≠ 18; rw [← gs18]; exact bne_iff_ne
  obtain ⟨ds1, gs1⟩ : ∃ d, (s != 1) = d := ⟨_, rfl⟩
  have Ks1 : Hid (ds1 = true ↔ s ≠ 1) := by show ds1 = true ↔ s ≠ 1; rw [← gs1]; exact bne_iff_ne
  refine wp_region_lit ?_
  refine wpList_cutK 9 (fun a a' w' => ∃ (v69 v70 v71 v72 v73 v74 v75 v76 : Value) (b : Bool), a' = puts a [(69, v69), (70, v70), (71, v71), (72, v72), (73, v73), (74, v74), (75, v75), (76, v76), (77, .bool b)] ∧ (b = true ↔ (0 < raw.size ∧ ¬ (s = 11 ∨ s = 12 ∨ s = 13 ∨ s = 14))) ∧ New wb w') ?_ ?_
  · intro J HJ
    simp only [List.take_succ_cons, List.take_zero]
    have hn := (Upd.refl (fun _ => False) wb)
    have z9 : wb.cell? ⟨g, 9, none⟩ = some (.string raw) := cellAt (hp1 HB1.out hn) 9 rfl
    have HW := hid hn
    clear hn
    by_cases hr : raw.toList = []
    · have KH : Hid (raw.size = 0) := tl_size hr
      go_wp2_with fail
      refine HJ.out _ _ ⟨?_, ?_, ?_, ?_, ?_, ?_, ?_, ?_, ?_, ?_, ?_, HW.out⟩
      rotate_left 9
      · simp only [puts, List.foldl_cons, List.foldl_nil, Act.put, List.setIfInBounds_toArray, List.set_cons_zero, List.set_cons_succ]
        rfl
      · have kKH := KH.out; ((first | refine iff_of_true rfl ?_ | refine iff_of_false (by decide) ?_ | skip); (try simp only [Bool.not_eq_true', Bool.false_eq_true, false_iff, true_iff, Bool.not_eq_true] at kKH); (try simp only [Bool.not_eq_true', Bool.false_eq_true, false_iff, true_iff, Bool.not_eq_true]); omega)
    · have KH : Hid (0 < raw.size) := tl_pos hr
      go_wp2_with fail
      refine (HIR.out _).mono ?_
      rintro e w' ⟨rfl, rfl⟩
      go_wp2_with fail
      refine HJ.out _ _ ⟨?_, ?_, ?_, ?_, ?_, ?_, ?_, ?_, ?_, ?_, ?_, HW.out.alloc _⟩
      rotate_left 9
      · simp only [puts, List.foldl_cons, List.foldl_nil, Act.put, List.setIfInBounds_toArray, List.set_cons_zero, List.set_cons_succ]
        rfl
      · have kKH := KH.out; have kKR := KR.out; have kE := isE hr; (try simp only [kE, Bool.not_false, Bool.true_and]); cases br <;> ((first | refine iff_of_true rfl ?_ | refine iff_of_false (by decide) ?_ | skip); (try simp only [Bool.not_eq_true', Bool.false_eq_true, false_iff, true_iff, Bool.not_eq_true] at kKH); (try simp only [Bool.not_eq_true', Bool.false_eq_true, false_iff, true_iff, Bool.not_eq_true] at kKR); (try simp only [Bool.not_eq_true', Bool.false_eq_true, false_iff, true_iff, Bool.not_eq_true]); omega)
  · rintro a' y1 ⟨v69, v70, v71, v72, v73, v74, v75, v76, b1, rfl, hb1, hn1⟩
    simp only [List.drop_succ_cons, List.drop_zero, puts, List.foldl_cons, List.foldl_nil, Act.put, List.setIfInBounds_toArray, List.set_cons_zero, List.set_cons_succ]
    have HD1 := hid hb1
    have HM1 := hid hn1
    clear hb1 hn1
    refine wpList_cutK 13 (fun a a' w' => ∃ (v78 v79 v80 v81 v82 v83 v84 v85 v86 v87 v88 v89 : Value) (b : Bool), a' = puts a [(78, v78), (79, v79), (80, v80), (81, v81), (82, v82), (83, v83), (84, v84), (85, v85), (86, v86), (87, v87), (88, v88), (89, v89), (90, .bool b)] ∧ (b = true ↔ (0 < raw.size ∧ ¬ (s = 11 ∨ s = 12 ∨ s = 13 ∨ s = 14)) ∨ (0 < ty.size ∧ s ≠ 17 ∧ s ≠ 18)) ∧ New wb w') ?_ ?_
    · intro J HJ
      simp only [List.take_succ_cons, List.take_zero]
      have hn := HM1.out
      have z11 : y1.cell? ⟨g, 11, none⟩ = some (.string ty) := cellAt (hp1 HB1.out hn) 11 rfl
      have HW := hid hn
      clear hn
      cases b1 with
      | true =>
        go_wp2_with fail
        refine HJ.out _ _ ⟨?_, ?_, ?_, ?_, ?_, ?_, ?_, ?_, ?_, ?_, ?_, ?_, ?_, ?_, ?_, HW.out⟩
        rotate_left 13
        · simp only [puts, List.foldl_cons, List.foldl_nil, Act.put, List.setIfInBounds_toArray, List.set_cons_zero, List.set_cons_succ]
          rfl
        · have kb := HD1.out; ((first | refine iff_of_true rfl ?_ | refine iff_of_false (by decide) ?_ | skip); (try simp only [Bool.not_eq_true', Bool.false_eq_true, false_iff, true_iff, Bool.not_eq_true] at kb); (try simp only [Bool.not_eq_true', Bool.false_eq_true, false_iff, true_iff, Bool.not_eq_true]); omega)
      | false =>
        by_cases hr : ty.toList = []
        · have KH : Hid (ty.size = 0) := tl_size hr
          go_wp2_with fail
          refine HJ.out _ _ ⟨?_, ?_, ?_, ?_, ?_, ?_, ?_, ?_, ?_, ?_, ?_, ?_, ?_, ?_, ?_, HW.out⟩
          rotate_left 13
          · simp only [puts, List.foldl_cons, List.foldl_nil, Act.put, List.setIfInBounds_toArray, List.set_cons_zero, List.set_cons_succ]
            rfl
          · have kKH := KH.out; have kb := HD1.out; ((first | refine iff_of_true rfl ?_ | refine iff_of_false (by decide) ?_ | skip); (try simp only [Bool.not_eq_true', Bool.false_eq_true, false_iff, true_iff, Bool.not_eq_true] at kKH); (try simp only [Bool.not_eq_true', Bool.false_eq_true, false_iff, true_iff, Bool.not_eq_true] at kb); (try simp only [Bool.not_eq_true', Bool.false_eq_true, false_iff, true_iff, Bool.not_eq_true]); omega)
        · have KH : Hid (0 < ty.size) := tl_pos hr
          cases ds17 with
          | false =>
            go_wp2_with fail
            refine HJ.out _ _ ⟨?_, ?_, ?_, ?_, ?_, ?_, ?_, ?_, ?_, ?_, ?_, ?_, ?_, ?_, ?_, HW.out⟩
            rotate_left 13
            · simp only [puts, List.foldl_cons, List.foldl_nil, Act.put, List.setIfInBounds_toArray, List.set_cons_zero, List.set_cons_succ]
              rfl
            · have kKH := KH.out; have kKs17 := Ks17.out; have kb := HD1.out; have kE := isE hr; (try simp only [kE, Bool.not_false, Bool.true_and]); ((first | refine iff_of_true rfl ?_ | refine iff_of_false (by decide) ?_ | skip); (try simp only [Bool.not_eq_true', Bool.false_eq_true, false_iff, true_iff, Bool.not_eq_true] at kKH); (try simp only [Bool.not_eq_true', Bool.false_eq_true, false_iff, true_iff, Bool.not_eq_true] at kKs17); (try simp only [Bool.not_eq_true', Bool.false_eq_true, false_iff, true_iff, Bool.not_eq_true] at kb); (try simp only [Bool.not_eq_true', Bool.false_eq_true, false_iff, true_iff, Bool.not_eq_true]); omega)
          | true =>
            go_wp2_with fail
            refine HJ.out _ _ ⟨?_, ?_, ?_, ?_, ?_, ?_, ?_, ?_, ?_, ?_, ?_, ?_, ?_, ?_, ?_, HW.out⟩
            rotate_left 13
            · simp only [puts, List.foldl_cons, List.foldl_nil, Act.put, List.setIfInBounds_toArray, List.set_cons_zero, List.set_cons_succ]
              rfl
            · have kKH := KH.out; have kKs17 := Ks17.out; have kKs18 := Ks18.out; have kb := HD1.out; have kE := isE hr; (try simp only [kE, Bool.not_false, Bool.true_and]); cases ds18 <;> ((first | refine iff_of_true rfl ?_ | refine iff_of_false (by decide) ?_ | skip); (try simp only [Bool.not_eq_true', Bool.false_eq_true, false_iff, true_iff, Bool.not_eq_true] at kKH); (try simp only [Bool.not_eq_true', Bool.false_eq_true, false_iff, true_iff, Bool.not_eq_true] at kKs17); (try simp only [Bool.not_eq_true', Bool.false_eq_true, false_iff, true_iff, Bool.not_eq_true] at kKs18); (try simp only [Bool.not_eq_true', Bool.false_eq_true, false_iff, true_iff, Bool.not_eq_true] at kb); (try simp only [Bool.not_eq_true', Bool.false_eq_true, false_iff, true_iff, Bool.not_eq_true]); omega)
    · rintro a' y2 ⟨v78, v79, v80, v81, v82, v83, v84, v85, v86, v87, v88, v89, b2, rfl, hb2, hn2⟩
      simp only [List.drop_succ_cons, List.drop_zero, puts, List.foldl_cons, List.foldl_nil, Act.put, List.setIfInBounds_toArray, List.set_cons_zero, List.set_cons_succ]
      have HD2 := hid hb2
      have HM2 := hid hn2
      clear hb2 hn2
      have hn := HM2.out
      have z2 : y2.cell? ⟨g, 2, none⟩ = some (.int .i64 k) := cellAt (hp1 HB1.out hn) 2 rfl
      have z3 : y2.cell? ⟨g, 3, none⟩ = some (.int .u8 t) := cellAt (hp1 HB1.out hn) 3 rfl
      have z4 : y2.cell? ⟨g, 4, none⟩ = some (.int .u32 i) := cellAt (hp1 HB1.out hn) 4 rfl
      have HW := hid hn
      clear hn
      cases b2 with
      | true =>
        go_wp2_with fail
        refine HK.out _ _ _ _ _ _ _ _ _ _ _ _ _ _ _ _ _ _ _ _ _ _ _ _ _ _ _ _ _ _ _ _ _ _ _ _ _ _ _ _ _ _ ?_ (HW.out)
        · have kb := HD2.out; ((first | refine iff_of_true rfl ?_ | refine iff_of_false (by decide) ?_ | skip); (try simp only [Bool.not_eq_true', Bool.false_eq_true, false_iff, true_iff, Bool.not_eq_true] at kb); (try simp only [C2]); (try simp only [Bool.not_eq_true', Bool.false_eq_true, false_iff, true_iff, Bool.not_eq_true]); omega)
      | false =>
        cases dk with
        | true =>
          go_wp2_with fail
          refine HK.out _ _ _ _ _ _ _ _ _ _ _ _ _ _ _ _ _ _ _ _ _ _ _ _ _ _ _ _ _ _ _ _ _ _ _ _ _ _ _ _ _ _ ?_ (HW.out)
          · have kKk := Kk.out; have kKs1 := Ks1.out; have kb := HD2.out; cases ds1 <;> ((first | refine iff_of_true rfl ?_ | refine iff_of_false (by decide) ?_ | skip); (try simp only [Bool.not_eq_true', Bool.false_eq_true, false_iff, true_iff, Bool.not_eq_true] at kKk); (try simp only [Bool.not_eq_true', Bool.false_eq_true, false_iff, true_iff, Bool.not_eq_true] at kKs1); (try simp only [Bool.not_eq_true', Bool.false_eq_true, false_iff, true_iff, Bool.not_eq_true] at kb); (try simp only [C2]); (try simp only [Bool.not_eq_true', Bool.false_eq_true, false_iff, true_iff, Bool.not_eq_true]); omega)
        | false =>
          cases dt with
          | true =>
            go_wp2_with fail
            refine HK.out _ _ _ _ _ _ _ _ _ _ _ _ _ _ _ _ _ _ _ _ _ _ _ _ _ _ _ _ _ _ _ _ _ _ _ _ _ _ _ _ _ _ ?_ (HW.out)
            · have kKk := Kk.out; have kKt := Kt.out; have kKs1 := Ks1.out; have kb := HD2.out; cases ds1 <;> ((first | refine iff_of_true rfl ?_ | refine iff_of_false (by decide) ?_ | skip); (try simp only [Bool.not_eq_true', Bool.false_eq_true, false_iff, true_iff, Bool.not_eq_true] at kKk); (try simp only [Bool.not_eq_true', Bool.false_eq_true, false_iff, true_iff, Bool.not_eq_true] at kKt); (try simp only [Bool.not_eq_true', Bool.false_eq_true, false_iff, true_iff, Bool.not_eq_true] at kKs1); (try simp only [Bool.not_eq_true', Bool.false_eq_true, false_iff, true_iff, Bool.not_eq_true] at kb); (try simp only [C2]); (try simp only [Bool.not_eq_true', Bool.false_eq_true, false_iff, true_iff, Bool.not_eq_true]); omega)
          | false =>
            cases di with
            | true =>
              go_wp2_with fail
              refine HK.out _ _ _ _ _ _ _ _ _ _ _ _ _ _ _ _ _ _ _ _ _ _ _ _ _ _ _ _ _ _ _ _ _ _ _ _ _ _ _ _ _ _ ?_ (HW.out)
              · have kKk := Kk.out; have kKt := Kt.out; have kKi := Ki.out; have kKs1 := Ks1.out; have kb := HD2.out; cases ds1 <;> ((first | refine iff_of_true rfl ?_ | refine iff_of_false (by decide) ?_ | skip); (try simp only [Bool.not_eq_true', Bool.false_eq_true, false_iff, true_iff, Bool.not_eq_true] at kKk); (try simp only [Bool.not_eq_true', Bool.false_eq_true, false_iff, true_iff, Bool.not_eq_true] at kKt); (try simp only [Bool.not_eq_true', Bool.false_eq_true, false_iff, true_iff, Bool.not_eq_true] at kKi); (try simp only [Bool.not_eq_true', Bool.false_eq_true, false_iff, true_iff, Bool.not_eq_true] at kKs1); (try simp only [Bool.not_eq_true', Bool.false_eq_true, false_iff, true_iff, Bool.not_eq_true] at kb); (try simp only [C2]); (try simp only [Bool.not_eq_true', Bool.false_eq_true, false_iff, true_iff, Bool.not_eq_true]); omega)
            | false =>
              go_wp2_with fail
              refine HK.out _ _ _ _ _ _ _ _ _ _ _ _ _ _ _ _ _ _ _ _ _ _ _ _ _ _ _ _ _ _ _ _ _ _ _ _ _ _ _ _ _ _ ?_ (HW.out)
              · have kKk := Kk.out; have kKt := Kt.out; have kKi := Ki.out; have kb := HD2.out; ((first | refine iff_of_true rfl ?_ | refine iff_of_false (by decide) ?_ | skip); (try simp only [Bool.not_eq_true', Bool.false_eq_true, false_iff, true_iff, Bool.not_eq_true] at kKk); (try simp only [Bool.not_eq_true', Bool.false_eq_true, false_iff, true_iff, Bool.not_eq_true] at kKt); (try simp only [Bool.not_eq_true', Bool.false_eq_true, false_iff, true_iff, Bool.not_eq_true] at kKi); (try simp only [Bool.not_eq_true', Bool.false_eq_true, false_iff, true_iff, Bool.not_eq_true] at kb); (try simp only [C2]); (try simp only [Bool.not_eq_true', Bool.false_eq_true, false_iff, true_iff, Bool.not_eq_true]); omega)
end Go.Proofs.Ytnngibflnnmioaa
