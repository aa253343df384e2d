/-
  WtypePuts, walked.
-/
import Derived.Test.YtjagimlmclejeaaJ38
import Derived.Test.YtjagimlmclejeaaJ39
import Derived.Test.YtjagimlmclejeaaJ36
import Derived.Test.YtjagimlmclejeaaJ40
import Derived.Test.YtjagimlmclejeaaJ44
namespace Go.Proofs.Ytjagimlmclejeaa
open Go.RowKit Go.Proofs.Leb Go.Proofs.Own
set_option maxRecDepth 100000
set_option maxHeartbeats 8000000

theorem bne_self' (b : Bool) : (b != b) = false := by cases b <;> rfl

theorem wtypePuts_in (w : World) (V e gt : UInt8) (p r p' r' : ByteArray) (lh th gm : Bool) (lmn lmx tmn tmx : Nat) (i1 : lmn < 4294967296) (i2 : lmx < 4294967296) (i3 : tmn < 4294967296) (i4 : tmx < 4294967296) (z1 : p.size ≤ 9223372036854775807) (z2 : r.size ≤ 9223372036854775807) (z3 : p'.size ≤ 9223372036854775807) (z4 : r'.size ≤ 9223372036854775807) :
    Calls Try.prog 3 #[.agg #[.int .u8 V.toNat, .string p, .string r, .bool lh, .int .u32 (lmn : Nat), .int .u32 (lmx : Nat), .int .u8 e.toNat, .bool th, .int .u32 (tmn : Nat), .int .u32 (tmx : Nat), .int .u8 gt.toNat, .bool gm], .agg #[.string p', .string r']] w (True' w) := by
  by_cases q1 : 300 < p.size
  · have e1 : decide (300 < (p.size : Int)) = true := decide_eq_true (by omega)
    go_enter Try.func3, Try.ntmps3
    go_wp2_with fail
    go_ret
    exact ⟨rfl, ((Upd.refl _ _).alloc _).alloc _⟩
  have e1 : decide (300 < (p.size : Int)) = false := decide_eq_false (by omega)
  by_cases q2 : 300 < r.size
  · have e2 : decide (300 < (r.size : Int)) = true := decide_eq_true (by omega)
    go_enter Try.func3, Try.ntmps3
    go_wp2_with fail
    go_ret
    exact ⟨rfl, ((Upd.refl _ _).alloc _).alloc _⟩
  have e2 : decide (300 < (r.size : Int)) = false := decide_eq_false (by omega)
  by_cases q3 : 300 < p'.size
  · have e3 : decide (300 < (p'.size : Int)) = true := decide_eq_true (by omega)
    go_enter Try.func3, Try.ntmps3
    go_wp2_with fail
    go_ret
    exact ⟨rfl, ((Upd.refl _ _).alloc _).alloc _⟩
  have e3 : decide (300 < (p'.size : Int)) = false := decide_eq_false (by omega)
  by_cases q4 : 300 < r'.size
  · have e4 : decide (300 < (r'.size : Int)) = true := decide_eq_true (by omega)
    go_enter Try.func3, Try.ntmps3
    go_wp2_with fail
    go_ret
    exact ⟨rfl, ((Upd.refl _ _).alloc _).alloc _⟩
  have e4 : decide (300 < (r'.size : Int)) = false := decide_eq_false (by omega)

  have HW0 : Hid (Tw w #[.int .u8 V.toNat, .string p, .string r, .bool lh, .int .u32 (lmn : Nat), .int .u32 (lmx : Nat), .int .u8 e.toNat, .bool th, .int .u32 (tmn : Nat), .int .u32 (tmx : Nat), .int .u8 gt.toNat, .bool gm] #[.string p', .string r'] ((w.alloc (.cells #[.int .u8 V.toNat, .string p, .string r, .bool lh, .int .u32 (lmn : Nat), .int .u32 (lmx : Nat), .int .u8 e.toNat, .bool th, .int .u32 (tmn : Nat), .int .u32 (tmx : Nat), .int .u8 gt.toNat, .bool gm] 32)).alloc (.cells #[.string p', .string r'] 23))) := ⟨((Upd.refl _ _).alloc _).alloc _, hp_old (by simp) (hp_new rfl), hp_new (by simp), by simp⟩
  go_enter Try.func3, Try.ntmps3
  go_upto_region 3 with fail
  clear e1 e2 e3 e4
  generalize (w.alloc (.cells #[.int .u8 V.toNat, .string p, .string r, .bool lh, .int .u32 (lmn : Nat), .int .u32 (lmx : Nat), .int .u8 e.toNat, .bool th, .int .u32 (tmn : Nat), .int .u32 (tmx : Nat), .int .u8 gt.toNat, .bool gm] 32)).alloc (.cells #[.string p', .string r'] 23) = w1 at *
  go_cut [5, 6, 7, 8] (fun x5 x6 x7 x8 wx => ∃ g5 g6 g7 g8 u1 u2, x5 = .pointer (some ⟨g5, 0, none⟩) ∧ x6 = .pointer (some ⟨g6, 0, none⟩) ∧ x7 = .pointer (some ⟨g7, 0, none⟩) ∧ x8 = .pointer (some ⟨g8, 0, none⟩) ∧ W4 w #[.int .u8 V.toNat, .string p, .string r, .bool lh, .int .u32 (lmn : Nat), .int .u32 (lmx : Nat), .int .u8 e.toNat, .bool th, .int .u32 (tmn : Nat), .int .u32 (tmx : Nat), .int .u8 gt.toNat, .bool gm] #[.string p', .string r'] (lb p) (lb r) #[.bool lh, .int .u32 (lmn : Nat), .int .u32 (lmx : Nat)] #[.int .u8 e.toNat, .bool th, .int .u32 (tmn : Nat), .int .u32 (tmx : Nat)] #[.int .u8 gt.toNat, .bool gm] g5 g6 g7 g8 u1 u2 wx)
  case first =>
    refine wl3_any w (.int .u8 V.toNat) p r lh th gm lmn lmx e.toNat tmn tmx gt.toNat #[.string p', .string r'] w1 (by omega) (by omega) HW0.out _ _ _ _ _ _ _ _ _ _ _ _ _ _ _ _ _ _ _ _ _ _ _ _ _ _ _ _ _ _ _ _ _ _ _ _ _ _ _ _ _ _ _ _ _ _ _ _ _ _ _ _ _ _ _ _ _ _ _ _ _ _ _ _ _ _ _ _ _ _ _ _ _ _ _ _ _ _ _ _ _ _ _ _ _ _ _ _ _ _ _ _ _ _ _ _ _ _ _ _ _ _ _ _ _ _ _ _ _ _ _ _ _ _ _ _ _ _ _ _ _ _ _ _ _ _ _ _ _ _ _ _ _ _ _ _ _ _ _ _ _ _ _ _ _ _ _ _ _ _ _ _ _ _ _ _ _ _ _ _ _ _ _ _ _ _ _ _ _ _ _ _ _ _ _ _ _ _ _ _ _ _ _ _ _ _ _ _ _ _ _ _ _ _ _ _ _ _ _ _ _ _ _ _ ?_
    intro v37 v38 v39 v40 v41 v42 v43 v44 v45 v46 v47 v48 u1 u2 g5 g6 g7 g8 w2 hw2
    dsimp only
    go_wp2_with fail
    go_meet
    exact ⟨g5, g6, g7, g8, u1, u2, rfl, rfl, rfl, rfl, hw2⟩
  case rest =>
  obtain ⟨g5, g6, g7, g8, u1, u2, rfl, rfl, rfl, rfl, hw2⟩ := hcut
  obtain ⟨w2, rfl⟩ : ∃ w2, w2 = wc := ⟨_, rfl⟩
  generalize Value.agg #[.int .u8 V.toNat, .string p, .string r, .bool lh, .int .u32 (lmn : Nat), .int .u32 (lmx : Nat), .int .u8 e.toNat, .bool th, .int .u32 (tmn : Nat), .int .u32 (tmx : Nat), .int .u8 gt.toNat, .bool gm] = A0 at *
  generalize Value.agg #[.string p', .string r'] = A1 at *
  obtain ⟨y1, k1, rfl⟩ := hw2.r1.rd.shape
  obtain ⟨y2, k2, rfl⟩ := hw2.r2.rd.shape
  have HW2 := hid hw2
  clear hw2 HW0
  have l1 := lb_len p
  have l2 := lb_len r
  have L1 := hid l1
  have L2 := hid l2
  clear l1 l2
  -- are all value types ones?
  obtain ⟨c1, hc1⟩ : ∃ c, valsV (lb p) = c := ⟨_, rfl⟩
  obtain ⟨c2, hc2⟩ : ∃ c, valsV (lb r) = c := ⟨_, rfl⟩
  have HV1 := hid (fun w' => vals_ref p w' z1)
  have HV2 := hid (fun w' => vals_ref r w' z2)
  rw [hc1] at HV1
  rw [hc2] at HV2
  obtain ⟨fn, hfn⟩ : ∃ b, (c1 && c2) = b := ⟨_, rfl⟩
  have HFN := hid hfn
  have HF0 : Hid ((valsV (lb p) && valsV (lb r)) = fn) := by show _ = _; rw [hc1, hc2]; exact hfn
  clear hc1 hc2 hfn
  have a1 := HW2.out.tw.atx 1 rfl
  have a2 := HW2.out.tw.atx 2 rfl
  go_upto_region 4 with fail
  go_cut [9] (fun b wx => b = .bool fn ∧ wx = w2)
  case first =>
    cases c1 with
    | false =>
      have hf : fn = false := by have := HFN.out; simpa using this.symm
      subst hf
      go_wp2_with fail
      refine (HV1.out _).mono ?_
      rintro e w' ⟨rfl, rfl⟩
      go_wp2_with fail
      go_meet
      exact ⟨rfl, rfl⟩
    | true =>
      have hf : fn = c2 := by have := HFN.out; simpa using this.symm
      subst hf
      go_wp2_with fail
      refine (HV1.out _).mono ?_
      rintro e w' ⟨rfl, rfl⟩
      go_wp2_with fail
      refine (HV2.out _).mono ?_
      rintro e w' ⟨rfl, rfl⟩
      go_wp2_with fail
      go_meet
      exact ⟨rfl, rfl⟩
  case rest =>
  obtain ⟨rfl, rfl⟩ := hcut
  clear a1 a2 HV1 HV2
  clear HFN
  obtain ⟨li, hli⟩ : ∃ b, (lh || decide (lmx = 0)) = b := ⟨_, rfl⟩
  obtain ⟨tb, htb⟩ : ∃ b, (refV e.toNat && (th || decide (tmx = 0))) = b := ⟨_, rfl⟩
  have HLI := hid hli
  have HTB := hid htb
  clear hli htb
  have sq1 := hid (Nat.not_lt.mp q1)
  have sq2 := hid (Nat.not_lt.mp q2)
  have sq3 := hid (Nat.not_lt.mp q3)
  have sq4 := hid (Nat.not_lt.mp q4)
  clear q1 q2 q3 q4
  go_upto_region 5 with fail
  go_cut [10, 11] (fun a b wx => a = .bool li ∧ b = .bool tb ∧ W4 w #[.int .u8 V.toNat, .string p, .string r, .bool lh, .int .u32 (lmn : Nat), .int .u32 (lmx : Nat), .int .u8 e.toNat, .bool th, .int .u32 (tmn : Nat), .int .u32 (tmx : Nat), .int .u8 gt.toNat, .bool gm] #[.string p', .string r'] (lb p) (lb r) #[.bool lh, .int .u32 (lmn : Nat), .int .u32 (lmx : Nat)] #[.int .u8 e.toNat, .bool th, .int .u32 (tmn : Nat), .int .u32 (tmx : Nat)] #[.int .u8 gt.toNat, .bool gm] g5 g6 g7 g8 (.slice y1 (lb p).length k1) (.slice y2 (lb r).length k2) wx)
  case first =>
    refine wl5_any w _ V e gt p r p' r' lh th gm lmn lmx tmn tmx g5 g6 g7 g8 y1 y2 k1 k2 HW2.out _ _ _ _ _ _ _ _ _ _ _ _ _ _ _ _ _ _ _ _ _ _ _ _ _ _ _ _ _ _ _ _ _ _ _ _ _ _ _ _ _ _ _ _ _ _ _ _ _ _ _ _ _ _ _ _ _ _ _ _ _ _ _ _ _ _ _ _ _ _ _ _ _ _ _ _ _ _ _ _ _ _ _ _ _ _ _ _ _ _ _ _ _ _ _ _ _ _ _ _ _ _ _ _ _ _ _ _ _ _ _ _ _ _ _ _ _ _ _ _ _ _ _ _ _ _ _ _ _ _ _ _ _ _ _ _ _ _ _ _ _ _ _ _ _ _ _ _ _ _ _ _ _ _ _ _ _ _ _ _ _ _ _ _ _ _ _ _ _ _ _ _ _ _ _ _ _ _ _ _ _ _ _ _ _ _ _ _ _ _ _ _ _ _ _ _ _ _ _ ?_
    intro v59 v60 v61 v62 v63 v64 v65 v66 v67 v68 v69 v70 v71 v72 v73 v74 v75 v76 v77 v78 v79 v80 v81 v82 v83 v84 W5 h5
    dsimp only
    go_wp2_with fail
    go_meet
    exact ⟨by rw [← HLI.out], by rw [← HTB.out], h5⟩
  case rest =>
  obtain ⟨rfl, rfl, h5⟩ := hcut
  have HW5 := hid h5
  clear h5 HW2
  go_upto_region 6 with fail
  go_cut [138] (fun a wx => a = .bool false ∧ W4 w #[.int .u8 V.toNat, .string p, .string r, .bool lh, .int .u32 (lmn : Nat), .int .u32 (lmx : Nat), .int .u8 e.toNat, .bool th, .int .u32 (tmn : Nat), .int .u32 (tmx : Nat), .int .u8 gt.toNat, .bool gm] #[.string p', .string r'] (lb p) (lb r) #[.bool lh, .int .u32 (lmn : Nat), .int .u32 (lmx : Nat)] #[.int .u8 e.toNat, .bool th, .int .u32 (tmn : Nat), .int .u32 (tmx : Nat)] #[.int .u8 gt.toNat, .bool gm] g5 g6 g7 g8 (.slice y1 (lb p).length k1) (.slice y2 (lb r).length k2) wx)
  case first =>
    refine wl6_any w _ V e gt p r p' r' lh th gm lmn lmx tmn tmx g5 g6 g7 g8 y1 y2 k1 k2 fn li tb HW5.out HF0.out HLI.out HTB.out sq1.out sq2.out sq3.out sq4.out _ _ _ _ _ _ _ _ _ _ _ _ _ _ _ _ _ _ _ _ _ _ _ _ _ _ _ _ _ _ _ _ _ _ _ _ _ _ _ _ _ _ _ _ _ _ _ _ _ _ _ _ _ _ _ _ _ _ _ _ _ _ _ _ _ _ _ _ _ _ _ _ _ _ _ _ _ _ _ _ _ _ _ _ _ _ _ _ _ _ _ _ _ _ _ _ _ _ _ _ _ _ _ _ _ _ _ _ _ _ _ _ _ _ _ _ _ _ _ _ _ _ _ _ _ _ _ _ _ _ _ _ _ _ _ _ _ _ _ _ _ _ _ _ _ _ _ _ _ _ _ _ _ _ _ _ _ _ _ _ _ _ _ _ _ _ _ _ _ _ _ _ _ _ _ _ _ _ _ _ _ _ _ _ _ _ _ _ _ _ _ _ _ _ _ _ ?_
    intro v85 v86 v87 v88 v89 v90 v91 v92 v93 v94 v95 v96 v97 v98 v99 v100 v101 v102 v103 v104 v105 v106 v107 v108 v109 v110 v111 v112 v113 v114 v115 v116 v117 v118 v119 v120 v121 v122 v123 v124 v125 v126 v127 v128 v129 v130 v131 v132 v133 v134 v135 v136 v137 W6 h6
    dsimp only
    go_wp2_with fail
    go_meet
    exact ⟨rfl, h6⟩
  case rest =>
  obtain ⟨rfl, h6⟩ := hcut
  clear HW5
  obtain ⟨wd, hwd⟩ : ∃ wd, wc.alloc (.cells #[.int .u8 9] 5) = wd := ⟨_, rfl⟩
  have hu : New wc wd := by rw [← hwd]; exact (Upd.refl _ _).alloc _
  have HB8 : Hid (Bytes wd (.slice (some ⟨wc.heap.size, 0, none⟩) 1 1) [9]) := by show Bytes _ _ _; rw [← hwd]; exact Bytes.lit1 wc 9 (by decide)
  have HW8 := hid (h6.new hu)
  have HGA := hid h6.tw.2.2.2
  have HWD := hid hwd
  clear h6 hu hwd
  go_upto_region 9 with fail
  rw [HWD.out]
  go_cut [174] (fun a wx => a = .bool false ∧ W4 w #[.int .u8 V.toNat, .string p, .string r, .bool lh, .int .u32 (lmn : Nat), .int .u32 (lmx : Nat), .int .u8 e.toNat, .bool th, .int .u32 (tmn : Nat), .int .u32 (tmx : Nat), .int .u8 gt.toNat, .bool gm] #[.string p', .string r'] (lb p) (lb r) #[.bool lh, .int .u32 (lmn : Nat), .int .u32 (lmx : Nat)] #[.int .u8 e.toNat, .bool th, .int .u32 (tmn : Nat), .int .u32 (tmx : Nat)] #[.int .u8 gt.toNat, .bool gm] g5 g6 g7 g8 (.slice y1 (lb p).length k1) (.slice y2 (lb r).length k2) wx)
  case first =>
    refine wl9_any w wd V e gt p r p' r' lh th gm lmn lmx tmn tmx g5 g6 g7 g8 y1 y2 k1 k2 fn li wc.heap.size HW8.out HB8.out HGA.out sq1.out sq2.out i1 i2 _ _ _ _ _ _ _ _ _ _ _ _ _ _ _ _ _ _ _ _ _ _ _ _ _ _ _ _ _ _ _ _ _ _ _ _ _ _ _ _ _ _ _ _ _ _ _ _ _ _ _ _ _ _ _ _ _ _ _ _ _ _ _ _ _ _ _ _ _ _ _ _ _ _ _ _ _ _ _ _ _ _ _ _ _ _ _ _ _ _ _ _ _ _ _ _ _ _ _ _ _ _ _ _ _ _ _ _ _ _ _ _ _ _ _ _ _ _ _ _ _ _ _ _ _ _ _ _ _ _ _ _ _ _ _ _ _ _ _ _ _ _ _ _ _ _ _ _ _ _ _ _ _ _ _ _ _ _ _ _ _ _ _ _ _ _ _ _ _ _ _ _ _ _ _ _ _ _ _ _ _ _ _ _ _ _ _ _ _ _ _ _ _ _ _ _ ?_
    intro v140 v141 v142 v143 v144 v145 v146 v147 v148 v149 v150 v151 v152 v153 v154 v155 v156 v157 v158 v159 v160 v161 v162 v163 v164 v165 v166 v167 v168 v169 v170 v171 v172 v173 W9 h9
    dsimp only
    go_wp2_with fail
    go_meet
    exact ⟨rfl, h9⟩
  case rest =>
  obtain ⟨rfl, h9⟩ := hcut
  have HW9 := hid h9
  clear h9 HW8 HB8
  go_upto_region 11 with fail
  go_cut [4] (fun a wx => a = .bool true ∧ New w wx)
  case first =>
    refine wl11_any w _ V e gt p r p' r' lh th gm lmn lmx tmn tmx g5 g6 g7 g8 y1 y2 k1 k2 tb HW9.out i3 i4 _ _ _ _ _ _ _ _ _ _ _ _ _ _ _ _ _ _ _ _ _ _ _ _ _ _ _ _ _ _ _ _ _ _ _ _ _ _ _ _ _ _ _ _ _ _ _ _ _ _ _ _ _ _ _ _ _ _ _ _ _ _ _ _ _ _ _ _ _ _ _ _ _ _ _ _ _ _ _ _ _ _ _ _ _ _ _ _ _ _ _ _ _ _ _ _ _ _ _ _ _ _ _ _ _ _ _ _ _ _ _ _ _ _ _ _ _ _ _ _ _ _ _ _ _ _ _ _ _ _ _ _ _ _ _ _ _ _ _ _ _ _ _ _ _ _ _ _ _ _ _ _ _ _ _ _ _ _ _ _ _ _ _ _ _ _ _ _ _ _ _ _ _ _ _ _ _ _ _ _ _ _ _ _ _ _ _ _ _ _ _ _ _ _ _ _ _ _ ?_
    intro v175 v176 v177 v178 v179 v180 v181 v182 v183 v184 v185 v186 v187 v188 v189 v190 v191 v192 v193 v194 v195 v196 v197 v198 v199 v200 v201 v202 v203 v204 W11 h11
    dsimp only
    go_wp2_with fail
    go_meet
    exact ⟨rfl, h11.tw.1⟩
  case rest =>
  obtain ⟨rfl, hN⟩ := hcut
  have HN := hid hN
  clear hN
  go_wp2_with fail
  go_ret
  exact ⟨rfl, HN.out⟩
theorem wtypePuts_walk (w : World) (x : TyM) (o : Fty) (hx : TyWf x) (h1 : o.p.size ≤ 140737488355328) (h2 : o.r.size ≤ 140737488355328) : Calls Try.prog 3 #[.agg (tyC x), .agg (fnC o)] w (True' w) :=
  wtypePuts_in w x.v x.e x.gt x.p x.r o.p o.r x.lh x.th x.gm x.ln x.lx x.tn x.tx hx.ln hx.lx hx.tn hx.tx (Nat.le_trans hx.p (by decide)) (Nat.le_trans hx.r (by decide)) (Nat.le_trans h1 (by decide)) (Nat.le_trans h2 (by decide))
end Go.Proofs.Ytjagimlmclejeaa
