/-
  Region 4 of the document's Right: numbers that an op has not.
-/
import Derived.Test.YtnngibflnnmioaaRrd
namespace Go.Proofs.Ytnngibflnnmioaa
open Go.RowKit Go.Proofs.Leb Go.Proofs.Own
set_option maxRecDepth 1000000
set_option maxHeartbeats 16000000

/-- a region of a function's code, by its number -/
def findRegion (n : Nat) : Code → Option Code
  | .region id ops d => if id = n then some (.region id ops d) else none
  | .seq a b => match findRegion n a with
    | some c => some c
    | none => findRegion n b
  | .cond _ a b => match findRegion n a with
    | some c => some c
    | none => findRegion n b
  | .loop c => findRegion n c
  | .block _ c => findRegion n c
  | .scope c => findRegion n c
  | _ => none
noncomputable def r4code : Code := (Try.f7.body.bind (findRegion 4)).getD .skip
theorem r4_any {K : Act → World → Prop} {Q : Exit → Act → World → Prop} (p c k t i x y n lane s : Int) (li : List Nat) (raw ty : ByteArray) (al : Option Addr) (cl g : Nat) (wa : World) (hb0 : BoxR wa g ⟨p, c, k, t, i, x, y, li, n, raw, lane, ty⟩ (.slice al li.length cl)) (c0 c2 c4 c5 c6 c7 c8 c9 c10 c11 c12 c13 c14 c15 c16 c17 c18 c19 c20 c21 c22 c23 c24 c25 c26 c27 c28 c29 c30 c31 c32 c33 c34 c35 c36 c37 c38 c39 c40 c41 c42 c43 c44 c45 c46 c47 c48 c49 c50 c51 c52 c53 c54 c55 c56 c57 c58 c59 c60 c61 c62 c63 c64 c65 c66 c67 c68 c69 c70 c71 c72 c73 c74 c75 c76 c77 c78 c79 c80 c81 c82 c83 c84 c85 c86 c87 c88 c89 c90 c91 c92 c93 c94 c95 c96 c97 c98 c99 c100 c101 c102 c103 c104 c105 c106 c107 c108 c109 c110 c111 c112 c113 c114 c115 c116 c117 c118 c119 c120 c121 c122 c123 c124 c125 c126 c127 c128 c129 c130 c131 c132 c133 c134 c135 c136 c137 c138 c139 c140 c141 c142 c143 c144 c145 c146 c147 c148 c149 c150 c151 c152 c153 c154 c155 c156 c157 c158 c159 c160 c161 c162 c163 c164 c165 c166 c167 c168 c169 c170 c171 c172 c173 c174 c175 c176 c177 c178 c179 c180 c181 c182 c183 c184 c185 c186 c187 c188 c189 c190 c191 c192 c193 c194 c195 c196 c197 c198 c199 c200 c201 c202 c203 c204 c205 c206 c207 c208 c209 c210 c211 c212 c213 c214 c215 : Value)
    (hK : ∀ (v13 v14 v15 v16 v17 v18 v19 v20 v21 v22 v23 v24 v25 v26 v27 v28 v29 v30 v31 v32 v33 v34 v35 v36 v37 v38 v39 v40 v41 v42 v43 v44 v45 v46 v47 v48 v49 v50 v51 v52 v53 v54 v55 v56 v57 v58 v59 v60 v61 v62 v63 v64 v65 v66 v67 : Value) (b : Bool) (w2 : World), (b = true ↔ C1 s ⟨p, c, k, t, i, x, y, li, n, raw, lane, ty⟩) → New wa w2 → K ⟨#[c0, .pointer (some ⟨g, 0, none⟩), c2, .int .i64 s, c4, c5, c6, c7, c8, c9, c10, c11, c12, v13, v14, v15, v16, v17, v18, v19, v20, v21, v22, v23, v24, v25, v26, v27, v28, v29, v30, v31, v32, v33, v34, v35, v36, v37, v38, v39, v40, v41, v42, v43, v44, v45, v46, v47, v48, v49, v50, v51, v52, v53, v54, v55, v56, v57, v58, v59, v60, v61, v62, v63, v64, v65, v66, v67, .bool b, c69, c70, c71, c72, c73, c74, c75, c76, c77, c78, c79, c80, c81, c82, c83, c84, c85, c86, c87, c88, c89, c90, c91, c92, c93, c94, c95, c96, c97, c98, c99, c100, c101, c102, c103, c104, c105, c106, c107, c108, c109, c110, c111, c112, c113, c114, c115, c116, c117, c118, c119, c120, c121, c122, c123, c124, c125, c126, c127, c128, c129, c130, c131, c132, c133, c134, c135, c136, c137, c138, c139, c140, c141, c142, c143, c144, c145, c146, c147, c148, c149, c150, c151, c152, c153, c154, c155, c156, c157, c158, c159, c160, c161, c162, c163, c164, c165, c166, c167, c168, c169, c170, c171, c172, c173, c174, c175, c176, c177, c178, c179, c180, c181, c182, c183, c184, c185, c186, c187, c188, c189, c190, c191, c192, c193, c194, c195, c196, c197, c198, c199, c200, c201, c202, c203, c204, c205, c206, c207, c208, c209, c210, c211, c212, c213, c214, c215], []⟩ w2) :
    Code.wp Try.prog r4code (Exit.then K Q) ⟨#[c0, .pointer (some ⟨g, 0, none⟩), c2, .int .i64 s, c4, c5, c6, c7, c8, c9, c10, c11, c12, c13, c14, c15, c16, c17, c18, c19, c20, c21, c22, c23, c24, c25, c26, c27, c28, c29, c30, c31, c32, c33, c34, c35, c36, c37, c38, c39, c40, c41, c42, c43, c44, c45, c46, c47, c48, c49, c50, c51, c52, c53, c54, c55, c56, c57, c58, c59, c60, c61, c62, c63, c64, c65, c66, c67, c68, c69, c70, c71, c72, c73, c74, c75, c76, c77, c78, c79, c80, c81, c82, c83, c84, c85, c86, c87, c88, c89, c90, c91, c92, c93, c94, c95, c96, c97, c98, c99, c100, c101, c102, c103, c104, c105, c106, c107, c108, c109, c110, c111, c112, c113, c114, c115, c116, c117, c118, c119, c120, c121, c122, c123, c124, c125, c126, c127, c128, c129, c130, c131, c132, c133, c134, c135, c136, c137, c138, c139, c140, c141, c142, c143, c144, c145, c146, c147, c148, c149, c150, c151, c152, c153, c154, c155, c156, c157, c158, c159, c160, c161, c162, c163, c164, c165, c166, c167, c168, c169, c170, c171, c172, c173, c174, c175, c176, c177, c178, c179, c180, c181, c182, c183, c184, c185, c186, c187, c188, c189, c190, c191, c192, c193, c194, c195, c196, c197, c198, c199, c200, c201, c202, c203, c204, c205, c206, c207, c208, c209, c210, c211, c212, c213, c214, c215], []⟩ wa := by
  have HK := hid hK
  clear hK
  have HB := hid hb0
  clear hb0
  obtain ⟨bx, hbx⟩ : ∃ b, inX s = b := ⟨_, rfl⟩
  obtain ⟨bY, hby⟩ : ∃ b, inY s = b := ⟨_, rfl⟩
  have HIX : Hid (∀ W : World, Calls Try.prog 25 #[.int .i64 s, .slice (some ⟨W.heap.size, 0, none⟩) 6 6] (W.alloc (.cells #[.int .i64 2, .int .i64 3, .int .i64 4, .int .i64 5, .int .i64 8, .int .i64 16] 3)) (IsPost bx (W.alloc (.cells #[.int .i64 2, .int .i64 3, .int .i64 4, .int .i64 5, .int .i64 8, .int .i64 16] 3)))) := fun W => by
    rw [← hbx]
    exact in_ints s _ [2, 3, 4, 5, 8, 16] _ (RdM.lit .i64 W [2, 3, 4, 5, 8, 16] 3 6 (by decide) [.int .i64 2, .int .i64 3, .int .i64 4, .int .i64 5, .int .i64 8, .int .i64 16] rfl (by decide)) (by decide)
  have HIY : Hid (∀ W : World, Calls Try.prog 25 #[.int .i64 s, .slice (some ⟨W.heap.size, 0, none⟩) 3 3] (W.alloc (.cells #[.int .i64 3, .int .i64 5, .int .i64 16] 3)) (IsPost bY (W.alloc (.cells #[.int .i64 3, .int .i64 5, .int .i64 16] 3)))) := fun W => by
    rw [← hby]
    exact in_ints s _ [3, 5, 16] _ (RdM.lit .i64 W [3, 5, 16] 3 3 (by decide) [.int .i64 3, .int .i64 5, .int .i64 16] rfl (by decide)) (by decide)
  have HBX := hid hbx
  have HBY := hid hby
  clear hbx hby
  conv => arg 2; whnf
  obtain ⟨dx, gx⟩ : ∃ d, (x != 0) = d := ⟨_, rfl⟩
  have Kx : Hid (dx = true ↔ x ≠ 0) := by show dx = true ↔ x ≠ 0; rw [← gx]; exact bne_iff_ne
  obtain ⟨dy, gy⟩ : ∃ d, (y != 0) = d := ⟨_, rfl⟩
  have Ky : Hid (dy = true ↔ y ≠ 0) := by show dy = true ↔ y ≠ 0; rw [← gy]; exact bne_iff_ne
  obtain ⟨dl, gl⟩ : ∃ d, decide (0 < (li.length : Int)) = d := ⟨_, rfl⟩
  have Kl : Hid (dl = true ↔ 0 < (li.length : Int)) := by show dl = true ↔ 0 < (li.length : Int); rw [← gl]; exact decide_eq_true_iff
  obtain ⟨dn, gn⟩ : ∃ d, (n != 0) = d := ⟨_, rfl⟩
  have Kn : Hid (dn = true ↔ n ≠ 0) := by show dn = true ↔ n ≠ 0; rw [← gn]; exact bne_iff_ne
  obtain ⟨de, ge⟩ : ∃ d, (lane != 0) = d := ⟨_, rfl⟩
  have Ke : Hid (de = true ↔ lane ≠ 0) := by show de = true ↔ lane ≠ 0; rw [← ge]; exact bne_iff_ne
  obtain ⟨ds4, gs4⟩ : ∃ d, (s != 4) = d := ⟨_, rfl⟩
  have Ks4 : Hid (ds4 = true ↔ s ≠ 4) := by show ds4 = true ↔ s ≠ 4; rw [← gs4]; exact bne_iff_ne
  obtain ⟨ds9, gs9⟩ : ∃ d, (s != 9) = d := ⟨_, rfl⟩
  have Ks9 : Hid (ds9 = true ↔ s ≠ 9) := by show ds9 = true ↔ s ≠ 9; rw [← gs9]; exact bne_iff_ne
  obtain ⟨ds10, gs10⟩ : ∃ d, (s != 10) = d := ⟨_, rfl⟩
  have Ks10 : Hid (ds10 = true ↔ s ≠ 10) := by show ds10 = true ↔ s ≠ 10; rw [← gs10]; exact bne_iff_ne
  obtain ⟨ds15, gs15⟩ : ∃ d, (s != 15) = d := ⟨_, rfl⟩
  have Ks15 : Hid (ds15 = true ↔ s ≠ 15) := by show ds15 = true ↔ s ≠ 15; rw [← gs15]; exact bne_iff_ne
  obtain ⟨ds16, gs16⟩ : ∃ d, (s != 16) = d := ⟨_, rfl⟩
  have Ks16 : Hid (ds16 = true ↔ s ≠ 16) := by show ds16 = true ↔ s ≠ 16; rw [← gs16]; exact bne_iff_ne
  have KX : Hid (bx = true ↔ (s = 2 ∨ s = 3 ∨ s = 4 ∨ s = 5 ∨ s = 8 ∨ s = 16)) := by show bx = true ↔ _; rw [← HBX.out]; exact inX_iff s
  have KY : Hid (bY = true ↔ (s = 3 ∨ s = 5 ∨ s = 16)) := by show bY = true ↔ _; rw [← HBY.out]; exact inY_iff s
  clear HBX HBY
  refine wp_region_lit ?_
  refine wpList_cutK 9 (fun a a' w' => ∃ (v13 v14 v15 v16 v17 v18 v19 v20 : Value) (b : Bool), a' = puts a [(13, v13), (14, v14), (15, v15), (16, v16), (17, v17), (18, v18), (19, v19), (20, v20), (21, .bool b)] ∧ (b = true ↔ (x ≠ 0 ∧ ¬ (s = 2 ∨ s = 3 ∨ s = 4 ∨ s = 5 ∨ s = 8 ∨ s = 16))) ∧ New wa w') ?_ ?_
  · intro J HJ
    simp only [List.take_succ_cons, List.take_zero]
    have hn := (Upd.refl (fun _ => False) wa)
    have z : wa.cell? ⟨g, 5, none⟩ = some (.int .u32 x) := cellAt (hp1 HB.out hn) 5 rfl
    have HW := hid hn
    clear hn
    cases dx with
    | false =>
      go_wp2_with fail
      refine HJ.out _ _ ⟨?_, ?_, ?_, ?_, ?_, ?_, ?_, ?_, ?_, ?_, ?_, HW.out⟩
      rotate_left 9
      · simp only [puts, List.foldl_cons, List.foldl_nil, Act.put, List.setIfInBounds_toArray, List.set_cons_zero, List.set_cons_succ]
        rfl
      · have kKx := Kx.out; ((first | refine iff_of_true rfl ?_ | refine iff_of_false (by decide) ?_ | skip); try simp only [Bool.not_eq_true', Bool.false_eq_true, false_iff, true_iff, Bool.not_eq_true] at kKx ⊢; (try simp only [C1]); omega)
    | true =>
      go_wp2_with fail
      refine (HIX.out _).mono ?_
      rintro e w' ⟨rfl, rfl⟩
      go_wp2_with fail
      refine HJ.out _ _ ⟨?_, ?_, ?_, ?_, ?_, ?_, ?_, ?_, ?_, ?_, ?_, HW.out.alloc _⟩
      rotate_left 9
      · simp only [puts, List.foldl_cons, List.foldl_nil, Act.put, List.setIfInBounds_toArray, List.set_cons_zero, List.set_cons_succ]
        rfl
      · have kKx := Kx.out; have kKX := KX.out; cases bx <;> ((first | refine iff_of_true rfl ?_ | refine iff_of_false (by decide) ?_ | skip); try simp only [Bool.not_eq_true', Bool.false_eq_true, false_iff, true_iff, Bool.not_eq_true] at kKx kKX ⊢; (try simp only [C1]); omega)
  · rintro a' w1 ⟨v13, v14, v15, v16, v17, v18, v19, v20, b1, rfl, hb1, hn1⟩
    simp only [List.drop_succ_cons, List.drop_zero, puts, List.foldl_cons, List.foldl_nil, Act.put, List.setIfInBounds_toArray, List.set_cons_zero, List.set_cons_succ]
    have HB1 := hid hb1
    have HN1 := hid hn1
    clear hb1 hn1
    refine wpList_cutK 11 (fun a a' w' => ∃ (v22 v23 v24 v25 v26 v27 v28 v29 v30 v31 : Value) (b : Bool), a' = puts a [(22, v22), (23, v23), (24, v24), (25, v25), (26, v26), (27, v27), (28, v28), (29, v29), (30, v30), (31, v31), (32, .bool b)] ∧ (b = true ↔ (x ≠ 0 ∧ ¬ (s = 2 ∨ s = 3 ∨ s = 4 ∨ s = 5 ∨ s = 8 ∨ s = 16)) ∨ (y ≠ 0 ∧ ¬ (s = 3 ∨ s = 5 ∨ s = 16))) ∧ New wa w') ?_ ?_
    · intro J HJ
      simp only [List.take_succ_cons, List.take_zero]
      have hn := HN1.out
      have z : w1.cell? ⟨g, 6, none⟩ = some (.int .u32 y) := cellAt (hp1 HB.out hn) 6 rfl
      have HW := hid hn
      clear hn
      cases b1 with
      | true =>
        go_wp2_with fail
        refine HJ.out _ _ ⟨?_, ?_, ?_, ?_, ?_, ?_, ?_, ?_, ?_, ?_, ?_, ?_, ?_, HW.out⟩
        rotate_left 11
        · simp only [puts, List.foldl_cons, List.foldl_nil, Act.put, List.setIfInBounds_toArray, List.set_cons_zero, List.set_cons_succ]
          rfl
        ·  have kb := HB1.out; ((first | refine iff_of_true rfl ?_ | refine iff_of_false (by decide) ?_ | skip); try simp only [Bool.not_eq_true', Bool.false_eq_true, false_iff, true_iff, Bool.not_eq_true] at kb ⊢; (try simp only [C1]); omega)
      | false =>
        cases dy with
        | false =>
          go_wp2_with fail
          refine HJ.out _ _ ⟨?_, ?_, ?_, ?_, ?_, ?_, ?_, ?_, ?_, ?_, ?_, ?_, ?_, HW.out⟩
          rotate_left 11
          · simp only [puts, List.foldl_cons, List.foldl_nil, Act.put, List.setIfInBounds_toArray, List.set_cons_zero, List.set_cons_succ]
            rfl
          · have kKy := Ky.out; have kb := HB1.out; ((first | refine iff_of_true rfl ?_ | refine iff_of_false (by decide) ?_ | skip); try simp only [Bool.not_eq_true', Bool.false_eq_true, false_iff, true_iff, Bool.not_eq_true] at kKy kb ⊢; (try simp only [C1]); omega)
        | true =>
          go_wp2_with fail
          refine (HIY.out _).mono ?_
          rintro e w' ⟨rfl, rfl⟩
          go_wp2_with fail
          refine HJ.out _ _ ⟨?_, ?_, ?_, ?_, ?_, ?_, ?_, ?_, ?_, ?_, ?_, ?_, ?_, HW.out.alloc _⟩
          rotate_left 11
          · simp only [puts, List.foldl_cons, List.foldl_nil, Act.put, List.setIfInBounds_toArray, List.set_cons_zero, List.set_cons_succ]
            rfl
          · have kKy := Ky.out; have kKY := KY.out; have kb := HB1.out; cases bY <;> ((first | refine iff_of_true rfl ?_ | refine iff_of_false (by decide) ?_ | skip); try simp only [Bool.not_eq_true', Bool.false_eq_true, false_iff, true_iff, Bool.not_eq_true] at kKy kKY kb ⊢; (try simp only [C1]); omega)
    · rintro a' w2 ⟨v22, v23, v24, v25, v26, v27, v28, v29, v30, v31, b2, rfl, hb2, hn2⟩
      simp only [List.drop_succ_cons, List.drop_zero, puts, List.foldl_cons, List.foldl_nil, Act.put, List.setIfInBounds_toArray, List.set_cons_zero, List.set_cons_succ]
      have HB2 := hid hb2
      have HN2 := hid hn2
      clear hb2 hn2
      refine wpList_cutK 10 (fun a a' w' => ∃ (v33 v34 v35 v36 v37 v38 v39 v40 v41 : Value) (b : Bool), a' = puts a [(33, v33), (34, v34), (35, v35), (36, v36), (37, v37), (38, v38), (39, v39), (40, v40), (41, v41), (42, .bool b)] ∧ (b = true ↔ (x ≠ 0 ∧ ¬ (s = 2 ∨ s = 3 ∨ s = 4 ∨ s = 5 ∨ s = 8 ∨ s = 16)) ∨ (y ≠ 0 ∧ ¬ (s = 3 ∨ s = 5 ∨ s = 16)) ∨ (0 < (li.length : Int) ∧ s ≠ 4)) ∧ New wa w') ?_ ?_
      · intro J HJ
        simp only [List.take_succ_cons, List.take_zero]
        have hn := HN2.out
        have z : w2.cell? ⟨g, 7, none⟩ = some (.slice al li.length cl) := cellAt (hp1 HB.out hn) 7 rfl
        have HW := hid hn
        clear hn
        cases b2 with
        | true =>
          go_wp2_with fail
          refine HJ.out _ _ ⟨?_, ?_, ?_, ?_, ?_, ?_, ?_, ?_, ?_, ?_, ?_, ?_, HW.out⟩
          rotate_left 10
          · simp only [puts, List.foldl_cons, List.foldl_nil, Act.put, List.setIfInBounds_toArray, List.set_cons_zero, List.set_cons_succ]
            rfl
          ·  have kb := HB2.out; ((first | refine iff_of_true rfl ?_ | refine iff_of_false (by decide) ?_ | skip); try simp only [Bool.not_eq_true', Bool.false_eq_true, false_iff, true_iff, Bool.not_eq_true] at kb ⊢; (try simp only [C1]); omega)
        | false =>
          by_cases hl : 0 < li.length
          · have Kl2 : Hid (0 < li.length) := hl
            go_wp2_with fail
            refine HJ.out _ _ ⟨?_, ?_, ?_, ?_, ?_, ?_, ?_, ?_, ?_, ?_, ?_, ?_, HW.out⟩
            rotate_left 10
            · simp only [puts, List.foldl_cons, List.foldl_nil, Act.put, List.setIfInBounds_toArray, List.set_cons_zero, List.set_cons_succ]
              rfl
            · have kKl2 := Kl2.out; have kKs4 := Ks4.out; have kb := HB2.out; cases ds4 <;> ((first | refine iff_of_true rfl ?_ | refine iff_of_false (by decide) ?_ | skip); try simp only [Bool.not_eq_true', Bool.false_eq_true, false_iff, true_iff, Bool.not_eq_true] at kKl2 kKs4 kb ⊢; (try simp only [C1]); omega)
          · have Kl2 : Hid (¬ 0 < li.length) := hl
            go_wp2_with fail
            refine HJ.out _ _ ⟨?_, ?_, ?_, ?_, ?_, ?_, ?_, ?_, ?_, ?_, ?_, ?_, HW.out⟩
            rotate_left 10
            · simp only [puts, List.foldl_cons, List.foldl_nil, Act.put, List.setIfInBounds_toArray, List.set_cons_zero, List.set_cons_succ]
              rfl
            · have kKl2 := Kl2.out; have kb := HB2.out; ((first | refine iff_of_true rfl ?_ | refine iff_of_false (by decide) ?_ | skip); try simp only [Bool.not_eq_true', Bool.false_eq_true, false_iff, true_iff, Bool.not_eq_true] at kKl2 kb ⊢; (try simp only [C1]); omega)
      · rintro a' w3 ⟨v33, v34, v35, v36, v37, v38, v39, v40, v41, b3, rfl, hb3, hn3⟩
        simp only [List.drop_succ_cons, List.drop_zero, puts, List.foldl_cons, List.foldl_nil, Act.put, List.setIfInBounds_toArray, List.set_cons_zero, List.set_cons_succ]
        have HB3 := hid hb3
        have HN3 := hid hn3
        clear hb3 hn3
        refine wpList_cutK 13 (fun a a' w' => ∃ (v43 v44 v45 v46 v47 v48 v49 v50 v51 v52 v53 v54 : Value) (b : Bool), a' = puts a [(43, v43), (44, v44), (45, v45), (46, v46), (47, v47), (48, v48), (49, v49), (50, v50), (51, v51), (52, v52), (53, v53), (54, v54), (55, .bool b)] ∧ (b = true ↔ (x ≠ 0 ∧ ¬ (s = 2 ∨ s = 3 ∨ s = 4 ∨ s = 5 ∨ s = 8 ∨ s = 16)) ∨ (y ≠ 0 ∧ ¬ (s = 3 ∨ s = 5 ∨ s = 16)) ∨ (0 < (li.length : Int) ∧ s ≠ 4) ∨ (n ≠ 0 ∧ s ≠ 9 ∧ s ≠ 10)) ∧ New wa w') ?_ ?_
        · intro J HJ
          simp only [List.take_succ_cons, List.take_zero]
          have hn := HN3.out
          have z : w3.cell? ⟨g, 8, none⟩ = some (.int .i64 n) := cellAt (hp1 HB.out hn) 8 rfl
          have HW := hid hn
          clear hn
          cases b3 with
          | true =>
            go_wp2_with fail
            refine HJ.out _ _ ⟨?_, ?_, ?_, ?_, ?_, ?_, ?_, ?_, ?_, ?_, ?_, ?_, ?_, ?_, ?_, HW.out⟩
            rotate_left 13
            · simp only [puts, List.foldl_cons, List.foldl_nil, Act.put, List.setIfInBounds_toArray, List.set_cons_zero, List.set_cons_succ]
              rfl
            ·  have kb := HB3.out; ((first | refine iff_of_true rfl ?_ | refine iff_of_false (by decide) ?_ | skip); try simp only [Bool.not_eq_true', Bool.false_eq_true, false_iff, true_iff, Bool.not_eq_true] at kb ⊢; (try simp only [C1]); omega)
          | false =>
            cases dn with
            | false =>
              go_wp2_with fail
              refine HJ.out _ _ ⟨?_, ?_, ?_, ?_, ?_, ?_, ?_, ?_, ?_, ?_, ?_, ?_, ?_, ?_, ?_, HW.out⟩
              rotate_left 13
              · simp only [puts, List.foldl_cons, List.foldl_nil, Act.put, List.setIfInBounds_toArray, List.set_cons_zero, List.set_cons_succ]
                rfl
              · have kKn := Kn.out; have kb := HB3.out; ((first | refine iff_of_true rfl ?_ | refine iff_of_false (by decide) ?_ | skip); try simp only [Bool.not_eq_true', Bool.false_eq_true, false_iff, true_iff, Bool.not_eq_true] at kKn kb ⊢; (try simp only [C1]); omega)
            | true =>
              cases ds9 with
              | false =>
                go_wp2_with fail
                refine HJ.out _ _ ⟨?_, ?_, ?_, ?_, ?_, ?_, ?_, ?_, ?_, ?_, ?_, ?_, ?_, ?_, ?_, HW.out⟩
                rotate_left 13
                · simp only [puts, List.foldl_cons, List.foldl_nil, Act.put, List.setIfInBounds_toArray, List.set_cons_zero, List.set_cons_succ]
                  rfl
                · have kKn := Kn.out; have kKs9 := Ks9.out; have kb := HB3.out; ((first | refine iff_of_true rfl ?_ | refine iff_of_false (by decide) ?_ | skip); try simp only [Bool.not_eq_true', Bool.false_eq_true, false_iff, true_iff, Bool.not_eq_true] at kKn kKs9 kb ⊢; (try simp only [C1]); omega)
              | true =>
                go_wp2_with fail
                refine HJ.out _ _ ⟨?_, ?_, ?_, ?_, ?_, ?_, ?_, ?_, ?_, ?_, ?_, ?_, ?_, ?_, ?_, HW.out⟩
                rotate_left 13
                · simp only [puts, List.foldl_cons, List.foldl_nil, Act.put, List.setIfInBounds_toArray, List.set_cons_zero, List.set_cons_succ]
                  rfl
                · have kKn := Kn.out; have kKs9 := Ks9.out; have kKs10 := Ks10.out; have kb := HB3.out; cases ds10 <;> ((first | refine iff_of_true rfl ?_ | refine iff_of_false (by decide) ?_ | skip); try simp only [Bool.not_eq_true', Bool.false_eq_true, false_iff, true_iff, Bool.not_eq_true] at kKn kKs9 kKs10 kb ⊢; (try simp only [C1]); omega)
        · rintro a' w4 ⟨v43, v44, v45, v46, v47, v48, v49, v50, v51, v52, v53, v54, b4, rfl, hb4, hn4⟩
          simp only [List.drop_succ_cons, List.drop_zero, puts, List.foldl_cons, List.foldl_nil, Act.put, List.setIfInBounds_toArray, List.set_cons_zero, List.set_cons_succ]
          have HB4 := hid hb4
          have HN4 := hid hn4
          clear hb4 hn4
          have hn := HN4.out
          have z : w4.cell? ⟨g, 10, none⟩ = some (.int .u8 lane) := cellAt (hp1 HB.out hn) 10 rfl
          have HW := hid hn
          clear hn
          cases b4 with
          | true =>
            go_wp2_with fail
            refine HK.out _ _ _ _ _ _ _ _ _ _ _ _ _ _ _ _ _ _ _ _ _ _ _ _ _ _ _ _ _ _ _ _ _ _ _ _ _ _ _ _ _ _ _ _ _ _ _ _ _ _ _ _ _ _ _ _ _ ?_ (HW.out)
            ·  have kb := HB4.out; ((first | refine iff_of_true rfl ?_ | refine iff_of_false (by decide) ?_ | skip); try simp only [Bool.not_eq_true', Bool.false_eq_true, false_iff, true_iff, Bool.not_eq_true] at kb ⊢; (try simp only [C1]); omega)
          | false =>
            cases de with
            | false =>
              go_wp2_with fail
              refine HK.out _ _ _ _ _ _ _ _ _ _ _ _ _ _ _ _ _ _ _ _ _ _ _ _ _ _ _ _ _ _ _ _ _ _ _ _ _ _ _ _ _ _ _ _ _ _ _ _ _ _ _ _ _ _ _ _ _ ?_ (HW.out)
              · have kKe := Ke.out; have kb := HB4.out; ((first | refine iff_of_true rfl ?_ | refine iff_of_false (by decide) ?_ | skip); try simp only [Bool.not_eq_true', Bool.false_eq_true, false_iff, true_iff, Bool.not_eq_true] at kKe kb ⊢; (try simp only [C1]); omega)
            | true =>
              cases ds15 with
              | false =>
                go_wp2_with fail
                refine HK.out _ _ _ _ _ _ _ _ _ _ _ _ _ _ _ _ _ _ _ _ _ _ _ _ _ _ _ _ _ _ _ _ _ _ _ _ _ _ _ _ _ _ _ _ _ _ _ _ _ _ _ _ _ _ _ _ _ ?_ (HW.out)
                · have kKe := Ke.out; have kKs15 := Ks15.out; have kb := HB4.out; ((first | refine iff_of_true rfl ?_ | refine iff_of_false (by decide) ?_ | skip); try simp only [Bool.not_eq_true', Bool.false_eq_true, false_iff, true_iff, Bool.not_eq_true] at kKe kKs15 kb ⊢; (try simp only [C1]); omega)
              | true =>
                go_wp2_with fail
                refine HK.out _ _ _ _ _ _ _ _ _ _ _ _ _ _ _ _ _ _ _ _ _ _ _ _ _ _ _ _ _ _ _ _ _ _ _ _ _ _ _ _ _ _ _ _ _ _ _ _ _ _ _ _ _ _ _ _ _ ?_ (HW.out)
                · have kKe := Ke.out; have kKs15 := Ks15.out; have kKs16 := Ks16.out; have kb := HB4.out; cases ds16 <;> ((first | refine iff_of_true rfl ?_ | refine iff_of_false (by decide) ?_ | skip); try simp only [Bool.not_eq_true', Bool.false_eq_true, false_iff, true_iff, Bool.not_eq_true] at kKe kKs15 kKs16 kb ⊢; (try simp only [C1]); omega)
end Go.Proofs.Ytnngibflnnmioaa
