/-
  Names: the document's bytes.
-/
import Derived.Test.YtnngibflnnmioaaNme
import Derived.Test.YtnngibflnnmioaaNmc
namespace Go.Proofs.Ytnngibflnnmioaa
open Go.RowKit Go.Proofs.Leb Go.Proofs.Own
set_option maxRecDepth 100000
set_option maxHeartbeats 4000000

theorem num0_any (v : Nat) (w : World) (hv : v < 4294967296) : Calls Try.prog 44 #[.int .u32 v, .int .i64 0] w (Says (encU v 0) w) := by
  have := num_any v 0 w hv (by decide)
  rw [numV_zero hv] at this
  exact this
theorem vals0_any (s : ByteArray) (w : World) (hs : s.size < 4294967296) : Calls Try.prog 46 #[.string s, .int .i64 0] w (Says (txB s) w) := by
  have := putVals_ref s 0 w hs (by decide)
  rw [numV_zero hs] at this
  exact this
theorem st_size (l : List UInt8) : (⟨l.toArray⟩ : ByteArray).size = l.length := by
  show l.toArray.size = _
  simp
theorem lb_st (l : List UInt8) : lb ⟨l.toArray⟩ = l := rfl
/-- a row's content: its bytes, and how many they are ahead -/
def szB (l : List UInt8) : List UInt8 := encU l.length 0 ++ l
theorem valsL_any (l : List UInt8) (w : World) (hs : l.length < 4294967296) : Calls Try.prog 46 #[.string ⟨l.toArray⟩, .int .i64 0] w (Says (szB l) w) := by
  have := vals0_any ⟨l.toArray⟩ w (by rw [st_size]; exact hs)
  unfold txB at this
  rw [st_size, lb_st] at this
  exact this
theorem rPutList_any {B : Nat → Prop} (l : Value) (xs : List (Nat × ByteArray)) (w : World) (hl : RdE 2 (E2 FN) w B l xs) (hx : PzN xs) :
    Calls Try.prog 63 #[l, .int .i64 0] w (Says (nmsB xs) w) := by
  obtain ⟨a, c, rfl, hat⟩ := nm_at hl
  have HAT := hid hat
  have HX := hid hx
  have hx1 := hx.1
  have h5 := encU_five (v := xs.length) (by omega)
  have HT := hid (num0_any xs.length w (by omega))
  have hwr : IntKind.u32.wrap (xs.length : Int) = xs.length := IntWalk.u32_in _ (by omega)
  have hwr2 : RowKit.wrap32 (xs.length : Int) = xs.length := by unfold RowKit.wrap32; omega
  clear hat hl hx
  go_enter Try.func63, Try.ntmps63
  go_wp2_with fail
  refine HT.out.mono ?_
  rintro e w2 ⟨rfl, hn⟩
  have HN2 := hid hn
  clear hn hwr hwr2
  go_wp2_with fail
  go_loopw [5, 6] (fun o c wr => ∃ (i : Nat) (d : List UInt8), c = .int .i64 i ∧ i ≤ xs.length ∧ o = .string ⟨d.toArray⟩ ∧ d = encU xs.length 0 ++ (xs.take i).flatMap nmB ∧ New w wr) (fun _ c _ => xs.length - (intOf c).toNat)
  case atStart => exact ⟨0, _, rfl, by omega, rfl, by simp, HN2.out⟩
  case round =>
    obtain ⟨i, d, rfl, hi1, rfl, hd, hnw⟩ := hrel
    by_cases hi : i < xs.length
    · obtain ⟨b, o, rfl, hc0, hc1⟩ := HAT.out i hi
      have hg1 : xs[i]? = some xs[i] := List.getElem?_eq_getElem hi
      have hsz := HX.out.2 _ (List.getElem_mem hi)
      have hfl := nms_flat HX.out i
      have q0 := hid hc0
      have q1 := hid hc1
      generalize xs[i] = x at *
      obtain ⟨n, s⟩ := x
      simp only at q0 q1 hsz
      have hdl : d.length ≤ 100000 := by rw [hd, List.length_append]; omega
      have h6 := encU_five (v := n) hsz.1
      have h7 := txB_len hsz.2
      have HG2 : Hid (encU xs.length 0 ++ (xs.take (i + 1)).flatMap nmB = (d ++ encU n 0) ++ txB s) := by
        show _ = _
        rw [List.take_add_one, hg1, hd]
        simp [nmB]
      have HNU := hid (fun w => num0_any n w hsz.1)
      have HVA := hid (fun w => vals0_any s w (by omega))
      have hcc1 : ¬ 9223372036854775807 < d.length + (encU n 0).length := by omega
      have hcc2 : ¬ 9223372036854775807 < d.length + (encU n 0).length + (txB s).length := by omega
      have hcc3 : ¬ 9223372036854775807 < d.length + ((encU n 0).length + (txB s).length) := by omega
      have hn : New w wr.drew := hnw.drew
      clear hg1 hc0 hc1 hsz hfl hd hnw
      go_wp2_with fail
      refine wp_region_noPanic ?_
      refine wp_region_held_drew (S := (New w)) (by kernel_rfl) (by first | exact hn | exact (Upd.refl _ _).drew | exact Upd.drew (by assumption)) (fun hn => ?_)
      generalize wr.drew = wd at *
      refine wpAnyH_take (i := 0) (oi := { dst := some 18, op := Op.move (Operand.tmp 5), type := 9, pos := "ref.go:89", after := #[], guard := none }) (v := ?v63x1) rfl (by kernel_rfl) (by kernel_rfl) (by kernel_rfl) (fun _ _ _ h => h) (Or.inl ⟨by rfl, ?y63x1⟩) hn ?r63x1
      case y63x1 => (intro wS hS; (try go_simp); (try with_reducible rfl))
      try simp only [Act.put, List.setIfInBounds_toArray, List.set_cons_zero, List.set_cons_succ]
      refine wpAnyH_take (i := 1) (oi := { dst := some 19, op := Op.move (Operand.tmp 0), type := 42, pos := "ref.go:89", after := #[], guard := none }) (v := ?v63x2) rfl (by kernel_rfl) (by kernel_rfl) (by kernel_rfl) (fun _ _ _ h => h) (Or.inl ⟨by rfl, ?y63x2⟩) hn ?r63x2
      case y63x2 => (intro wS hS; (try go_simp); (try with_reducible rfl))
      try simp only [Act.put, List.setIfInBounds_toArray, List.set_cons_zero, List.set_cons_succ]
      refine wpAnyH_take (i := 2) (oi := { dst := some 20, op := Op.move (Operand.tmp 6), type := 3, pos := "ref.go:89", after := #[], guard := none }) (v := ?v63x3) rfl (by kernel_rfl) (by kernel_rfl) (by kernel_rfl) (fun _ _ _ h => h) (Or.inl ⟨by rfl, ?y63x3⟩) hn ?r63x3
      case y63x3 => (intro wS hS; (try go_simp); (try with_reducible rfl))
      try simp only [Act.put, List.setIfInBounds_toArray, List.set_cons_zero, List.set_cons_succ]
      refine wpAnyH_take (i := 3) (oi := { dst := some 21, op := Op.indexAddr 42 (Operand.tmp 19) (Operand.tmp 20), type := 0, pos := "ref.go:89", after := #[{ on := 1, ground := Ground.data }, { on := 2, ground := Ground.data }], guard := none }) (v := ?v63x4) rfl (by kernel_rfl) (by kernel_rfl) (by kernel_rfl) (fun _ _ _ h => h) (Or.inl ⟨by rfl, ?y63x4⟩) hn ?r63x4
      case y63x4 => (intro wS hS; (try go_simp); (try with_reducible rfl))
      try simp only [Act.put, List.setIfInBounds_toArray, List.set_cons_zero, List.set_cons_succ]
      refine wpAnyH_take (i := 4) (oi := { dst := some 22, op := Op.fieldAddr 86 (Operand.tmp 21) 0, type := 0, pos := "ref.go:89", after := #[{ on := 3, ground := Ground.data }], guard := none }) (v := ?v63x5) rfl (by kernel_rfl) (by kernel_rfl) (by kernel_rfl) (fun _ _ _ h => h) (Or.inl ⟨by rfl, ?y63x5⟩) hn ?r63x5
      case y63x5 => (intro wS hS; (try go_simp); (try with_reducible rfl))
      try simp only [Act.put, List.setIfInBounds_toArray, List.set_cons_zero, List.set_cons_succ]
      refine wpAnyH_take (i := 5) (oi := { dst := some 23, op := Op.load 22 (Operand.tmp 22), type := 22, pos := "ref.go:89", after := #[{ on := 4, ground := Ground.data }], guard := none }) (v := ?v63x6) rfl (by kernel_rfl) (by kernel_rfl) (by kernel_rfl) (fun _ _ _ h => h) (Or.inl ⟨by rfl, ?y63x6⟩) hn ?r63x6
      case y63x6 => (intro wS hS; have c0 := hS.cell q0.out (fun h => h); (try go_simp); (try with_reducible rfl))
      try simp only [Act.put, List.setIfInBounds_toArray, List.set_cons_zero, List.set_cons_succ]
      refine wpAnyH_take (i := 6) (oi := { dst := some 24, op := Op.move (Operand.tmp 1), type := 3, pos := "ref.go:89", after := #[], guard := none }) (v := ?v63x7) rfl (by kernel_rfl) (by kernel_rfl) (by kernel_rfl) (fun _ _ _ h => h) (Or.inl ⟨by rfl, ?y63x7⟩) hn ?r63x7
      case y63x7 => (intro wS hS; (try go_simp); (try with_reducible rfl))
      try simp only [Act.put, List.setIfInBounds_toArray, List.set_cons_zero, List.set_cons_succ]
      refine wpAnyH_take (i := 9) (oi := { dst := some 27, op := Op.move (Operand.tmp 0), type := 42, pos := "ref.go:89", after := #[], guard := none }) (v := ?v63x8) rfl (by kernel_rfl) (by kernel_rfl) (by kernel_rfl) (fun _ _ _ h => h) (Or.inl ⟨by rfl, ?y63x8⟩) hn ?r63x8
      case y63x8 => (intro wS hS; (try go_simp); (try with_reducible rfl))
      try simp only [Act.put, List.setIfInBounds_toArray, List.set_cons_zero, List.set_cons_succ]
      refine wpAnyH_take (i := 10) (oi := { dst := some 28, op := Op.move (Operand.tmp 6), type := 3, pos := "ref.go:89", after := #[], guard := none }) (v := ?v63x9) rfl (by kernel_rfl) (by kernel_rfl) (by kernel_rfl) (fun _ _ _ h => h) (Or.inl ⟨by rfl, ?y63x9⟩) hn ?r63x9
      case y63x9 => (intro wS hS; (try go_simp); (try with_reducible rfl))
      try simp only [Act.put, List.setIfInBounds_toArray, List.set_cons_zero, List.set_cons_succ]
      refine wpAnyH_take (i := 11) (oi := { dst := some 29, op := Op.indexAddr 42 (Operand.tmp 27) (Operand.tmp 28), type := 0, pos := "ref.go:89", after := #[{ on := 9, ground := Ground.data }, { on := 10, ground := Ground.data }], guard := none }) (v := ?v63x10) rfl (by kernel_rfl) (by kernel_rfl) (by kernel_rfl) (fun _ _ _ h => h) (Or.inl ⟨by rfl, ?y63x10⟩) hn ?r63x10
      case y63x10 => (intro wS hS; (try go_simp); (try with_reducible rfl))
      try simp only [Act.put, List.setIfInBounds_toArray, List.set_cons_zero, List.set_cons_succ]
      refine wpAnyH_take (i := 12) (oi := { dst := some 30, op := Op.fieldAddr 86 (Operand.tmp 29) 1, type := 0, pos := "ref.go:89", after := #[{ on := 11, ground := Ground.data }], guard := none }) (v := ?v63x11) rfl (by kernel_rfl) (by kernel_rfl) (by kernel_rfl) (fun _ _ _ h => h) (Or.inl ⟨by rfl, ?y63x11⟩) hn ?r63x11
      case y63x11 => (intro wS hS; (try go_simp); (try with_reducible rfl))
      try simp only [Act.put, List.setIfInBounds_toArray, List.set_cons_zero, List.set_cons_succ]
      refine wpAnyH_take (i := 13) (oi := { dst := some 31, op := Op.load 9 (Operand.tmp 30), type := 9, pos := "ref.go:89", after := #[{ on := 12, ground := Ground.data }], guard := none }) (v := ?v63x12) rfl (by kernel_rfl) (by kernel_rfl) (by kernel_rfl) (fun _ _ _ h => h) (Or.inl ⟨by rfl, ?y63x12⟩) hn ?r63x12
      case y63x12 => (intro wS hS; have c0 := hS.cell q1.out (fun h => h); (try go_simp); (try with_reducible rfl))
      try simp only [Act.put, List.setIfInBounds_toArray, List.set_cons_zero, List.set_cons_succ]
      refine wpAnyH_take (i := 14) (oi := { dst := some 32, op := Op.move (Operand.tmp 1), type := 3, pos := "ref.go:89", after := #[], guard := none }) (v := ?v63x13) rfl (by kernel_rfl) (by kernel_rfl) (by kernel_rfl) (fun _ _ _ h => h) (Or.inl ⟨by rfl, ?y63x13⟩) hn ?r63x13
      case y63x13 => (intro wS hS; (try go_simp); (try with_reducible rfl))
      try simp only [Act.put, List.setIfInBounds_toArray, List.set_cons_zero, List.set_cons_succ]
      refine wpAnyH_ready (rs := [7]) (by kernel_rfl) (by simp) ?_
      refine AllReadyH.cons (o := { dst := some 25, op := Op.call { callee := Callee.value (Operand.func 44), args := #[Operand.tmp 23, Operand.tmp 24], argTypes := #[22, 3] }, type := 9, pos := "ref.go:89", after := #[{ on := 5, ground := Ground.data }, { on := 6, ground := Ground.data }], guard := none }) rfl (fun K hK => ?_) AllReadyH.nil
      go_simp
      refine (HNU.out _).mono ?_
      rintro e wq ⟨rfl, hnq⟩
      go_wp2_with fail
      have hn := New.trans hn hnq
      refine hK.out _ _ (by first | exact hn | exact Upd.alloc hn _) (fun hn => ?_)
      clear hK K
      try simp only [Act.put, List.setIfInBounds_toArray, List.set_cons_zero, List.set_cons_succ]
      refine wpAnyH_take (i := 8) (oi := { dst := some 26, op := Op.binOp BinOp.add 9 (Operand.tmp 18) (Operand.tmp 25) 9, type := 9, pos := "ref.go:89", after := #[{ on := 0, ground := Ground.data }, { on := 7, ground := Ground.data }], guard := none }) (v := ?v63x14) rfl (by kernel_rfl) (by kernel_rfl) (by kernel_rfl) (fun _ _ _ h => h) (Or.inl ⟨by rfl, ?y63x14⟩) hn ?r63x14
      case y63x14 => (intro wS hS; (try go_simp); (try with_reducible rfl))
      try simp only [Act.put, List.setIfInBounds_toArray, List.set_cons_zero, List.set_cons_succ]
      refine wpAnyH_ready (rs := [15]) (by kernel_rfl) (by simp) ?_
      refine AllReadyH.cons (o := { dst := some 33, op := Op.call { callee := Callee.value (Operand.func 46), args := #[Operand.tmp 31, Operand.tmp 32], argTypes := #[9, 3] }, type := 9, pos := "ref.go:89", after := #[{ on := 13, ground := Ground.data }, { on := 14, ground := Ground.data }, { on := 7, ground := Ground.chain }], guard := none }) rfl (fun K hK => ?_) AllReadyH.nil
      go_simp
      refine (HVA.out _).mono ?_
      rintro e wt ⟨rfl, hnq⟩
      go_wp2_with fail
      have hn := New.trans hn hnq
      refine hK.out _ _ (by first | exact hn | exact Upd.alloc hn _) (fun hn => ?_)
      clear hK K
      try simp only [Act.put, List.setIfInBounds_toArray, List.set_cons_zero, List.set_cons_succ]
      refine wpAnyH_take (i := 16) (oi := { dst := some 34, op := Op.binOp BinOp.add 9 (Operand.tmp 26) (Operand.tmp 33) 9, type := 9, pos := "ref.go:89", after := #[{ on := 8, ground := Ground.data }, { on := 15, ground := Ground.data }], guard := none }) (v := ?v63x15) rfl (by kernel_rfl) (by kernel_rfl) (by kernel_rfl) (fun _ _ _ h => h) (Or.inl ⟨by rfl, ?y63x15⟩) hn ?r63x15
      case y63x15 => (intro wS hS; (try go_simp); (try with_reducible rfl))
      try simp only [Act.put, List.setIfInBounds_toArray, List.set_cons_zero, List.set_cons_succ]
      refine wpAnyH_take (i := 17) (oi := { dst := some 5, op := Op.assign (Operand.tmp 34), type := 9, pos := "ref.go:89", after := #[{ on := 16, ground := Ground.data }, { on := 15, ground := Ground.chain }, { on := 0, ground := Ground.phase }, { on := 1, ground := Ground.phase }, { on := 2, ground := Ground.phase }, { on := 3, ground := Ground.phase }, { on := 4, ground := Ground.phase }, { on := 5, ground := Ground.phase }, { on := 6, ground := Ground.phase }, { on := 7, ground := Ground.phase }, { on := 8, ground := Ground.phase }, { on := 9, ground := Ground.phase }, { on := 10, ground := Ground.phase }, { on := 11, ground := Ground.phase }, { on := 12, ground := Ground.phase }, { on := 13, ground := Ground.phase }, { on := 14, ground := Ground.phase }, { on := 15, ground := Ground.phase }, { on := 16, ground := Ground.phase }], guard := none }) (v := ?v63x16) rfl (by kernel_rfl) (by kernel_rfl) (by kernel_rfl) (fun _ _ _ h => h) (Or.inl ⟨by rfl, ?y63x16⟩) hn ?r63x16
      case y63x16 => (intro wS hS; (try go_simp); (try with_reducible rfl))
      try simp only [Act.put, List.setIfInBounds_toArray, List.set_cons_zero, List.set_cons_succ]
      refine wpAnyH_done (by kernel_rfl) ?_ _
      refine NoPanic.normal ?_
      have HH := hid hn
      clear hn hcc1 hcc2 hcc3
      go_wp2_with fail
      go_roundw
      case rel => exact ⟨i + 1, (d ++ encU n 0) ++ txB s, by go_num, by omega, by simp only [st_cat], HG2.out.symm, HH.out⟩
      case measure => (simp [intOf]; omega)
    · have e : i = xs.length := by omega
      subst e
      rw [List.take_length] at hd
      have hd : d = nmsB xs := hd
      have HD := hid hd
      have HW := hid hnw
      clear hd hnw
      go_wp2_with fail
      go_ret
      exact ⟨by rw [← HD.out]; rfl, HW.out⟩
theorem row_eq (r : UInt8) (c : List UInt8) : rowB r c = [r] ++ szB c := rfl
theorem szB_len {l : List UInt8} (h : l.length < 4294967296) : (szB l).length ≤ l.length + 5 := by
  unfold szB
  have := encU_five h
  rw [List.length_append]
  omega
theorem rNsPut_any {B : Nat → Prop} (N : Nms) (f l : Value) (w : World) (h1 : RdE 2 (E2 FN) w B f N.fs) (h2 : RdE 2 (E2 FL) w B l N.ls) (hz : Pz N) :
    Calls Try.prog 22 #[nv N f l, .int .i64 0] w (Says (nsB N) w) := by
  have HF := hid h1
  have HL := hid h2
  have HZ := hid hz
  obtain ⟨a1, c1, rfl⟩ := h1.shape
  obtain ⟨a2, c2, rfl⟩ := h2.shape
  clear h1 h2 hz
  obtain ⟨hm, hf, hl, md, fs, ls⟩ := N
  obtain ⟨w2, hw2⟩ : ∃ w2, w.alloc (.cells #[.bool hm, .bool hf, .bool hl, .string md, .slice a1 fs.length c1, .slice a2 ls.length c2] 45) = w2 := ⟨_, rfl⟩
  have HN : Hid (New w w2) := by show New _ _; rw [← hw2]; exact (Upd.refl _ _).alloc _
  have HB : Hid (NBox w2 w.heap.size ⟨hm, hf, hl, md, fs, ls⟩ (.slice a1 fs.length c1) (.slice a2 ls.length c2) 45) := by show NBox _ _ _ _ _ _; rw [← hw2]; exact hp_new rfl
  obtain ⟨z0, z1, z2, z3, z4, z5⟩ := HB.out.cs
  unfold nv
  simp only at *
  have HW := hid hw2
  clear hw2
  obtain ⟨P1, hP1⟩ : ∃ P : List UInt8, (if hm = true then rowB 0 (txB md) else []) = P := ⟨_, rfl⟩
  obtain ⟨P2, hP2⟩ : ∃ P : List UInt8, (if hf = true then rowB 1 (nmsB fs) else []) = P := ⟨_, rfl⟩
  obtain ⟨P3, hP3⟩ : ∃ P : List UInt8, (if hl = true then rowB 2 (lcsB ls) else []) = P := ⟨_, rfl⟩
  have HNS : Hid (nsB ⟨hm, hf, hl, md, fs, ls⟩ = P1 ++ (P2 ++ P3)) := by show _ = _; rw [← hP1, ← hP2, ← hP3]; rfl
  have lt1 : (txB md).length ≤ 3005 := txB_len HZ.out.1
  have lt2 : (nmsB fs).length ≤ 90305 := nmsB_len HZ.out.2.1
  have lt3 : (lcsB ls).length ≤ 2709305 := lcsB_len HZ.out.2.2
  have ls1 := szB_len (l := txB md) (by omega)
  have ls2 := szB_len (l := nmsB fs) (by omega)
  have ls3 := szB_len (l := lcsB ls) (by omega)
  have L1 : P1.length ≤ 4000 := by
    rw [← hP1]
    split
    · rw [row_eq, List.length_append]; simp only [List.length_cons, List.length_nil]; omega
    · simp
  have L2 : P2.length ≤ 100000 := by
    rw [← hP2]
    split
    · rw [row_eq, List.length_append]; simp only [List.length_cons, List.length_nil]; omega
    · simp
  have HP1 := hid hP1
  have HP2 := hid hP2
  have HP3 := hid hP3
  clear hP1 hP2 hP3
  go_enter Try.func22, Try.ntmps22
  go_upto_if 9 with fail
  rw [HW.out]
  clear HW
  generalize Value.agg #[.bool hm, .bool hf, .bool hl, .string md, .slice a1 fs.length c1, .slice a2 ls.length c2] = A0
  go_cut [5] (fun o wx => o = .string ⟨P1.toArray⟩ ∧ New w2 wx)
  case first =>
    cases hm with
    | false =>
      have HE : Hid (P1 = []) := HP1.out.symm
      clear HNS HP1 L1
      go_wp2_with fail
      go_meet
      exact ⟨by (rw [HE.out]) <;> rfl, Upd.refl _ _⟩
    | true =>
      have HE : Hid (P1 = [0] ++ szB (txB md)) := HP1.out.symm
      have H1 := hid (fun w => vals0_any md w (by have : md.size ≤ 3000 := HZ.out.1; omega))
      have H2 := hid (fun w => valsL_any (txB md) w (by omega))
      have hcc : ¬ 9223372036854775807 < 1 + (szB (txB md)).length := by omega
      clear HNS HP1 L1
      go_wp2_with fail
      refine (H1.out _).mono ?_
      rintro e w3 ⟨rfl, hn3⟩
      have HN3 := hid hn3
      clear hn3
      go_wp2_with fail
      refine (H2.out _).mono ?_
      rintro e w4 ⟨rfl, hn4⟩
      have HN4 := hid (New.trans HN3.out hn4)
      clear hn4 z0 z1 z2 z3 z4 z5
      go_wp2_with fail
      go_meet
      exact ⟨by rw [HE.out]; exact congrArg Value.string (st_cat [0] _), HN4.out⟩
  case rest =>
  obtain ⟨rfl, hn⟩ := hcut
  obtain ⟨w4, rfl⟩ : ∃ w4, w4 = wc := ⟨_, rfl⟩
  have HN4 := hid hn
  clear hn z0 z1 z2 z3 z4 z5
  obtain ⟨z0, z1, z2, z3, z4, z5⟩ := NBox.cs (hp1 HB.out HN4.out)
  simp only at z0 z1 z2 z3 z4 z5
  go_upto_if 18 with fail
  go_cut [5] (fun o wx => o = .string ⟨(P1 ++ P2).toArray⟩ ∧ New w2 wx)
  case first =>
    cases hf with
    | false =>
      have HE : Hid (P2 = []) := HP2.out.symm
      clear HNS HP2 L2
      go_wp2_with fail
      go_meet
      exact ⟨by (rw [HE.out, List.append_nil]) <;> rfl, HN4.out⟩
    | true =>
      have HE : Hid (P2 = [1] ++ szB (nmsB fs)) := HP2.out.symm
      have H1 := hid (fun w' (hn : New w w') => rPutList_any (.slice a1 fs.length c1) fs w' (HF.out.new (E2.ok FN.ok) hn) HZ.out.2.1)
      have H2 := hid (fun w => valsL_any (nmsB fs) w (by omega))
      have hcc : ¬ 9223372036854775807 < P1.length + 1 := by omega
      have hcc2 : ¬ 9223372036854775807 < P1.length + 1 + (szB (nmsB fs)).length := by omega
      have hcc3 : ¬ 9223372036854775807 < P1.length + (1 + (szB (nmsB fs)).length) := by omega
      clear HNS HP2 L2
      go_wp2_with fail
      refine (H1.out _ (New.trans HN.out HN4.out)).mono ?_
      rintro e w5 ⟨rfl, hn5⟩
      have HN5 := hid (New.trans HN4.out hn5)
      clear hn5
      go_wp2_with fail
      refine (H2.out _).mono ?_
      rintro e w6 ⟨rfl, hn6⟩
      have HN6 := hid (New.trans HN5.out hn6)
      clear hn6 z0 z1 z2 z3 z4 z5
      go_wp2_with fail
      go_meet
      refine ⟨?_, HN6.out⟩
      rw [HE.out, ← List.append_assoc, ← st_cat, ← st_cat]
      all_goals rfl
  case rest =>
  obtain ⟨rfl, hn⟩ := hcut
  obtain ⟨w6, rfl⟩ : ∃ w6, w6 = wc := ⟨_, rfl⟩
  have HN6 := hid hn
  clear hn z0 z1 z2 z3 z4 z5
  obtain ⟨z0, z1, z2, z3, z4, z5⟩ := NBox.cs (hp1 HB.out HN6.out)
  simp only at z0 z1 z2 z3 z4 z5
  obtain ⟨pre, hpre⟩ : ∃ pre, P1 ++ P2 = pre := ⟨_, rfl⟩
  have HPRE := hid hpre
  have hplen : pre.length ≤ 104000 := by rw [← hpre, List.length_append]; omega
  rw [hpre]
  clear hpre
  go_upto_if 29 with fail
  go_cut [5] (fun o wx => o = .string ⟨(pre ++ P3).toArray⟩ ∧ New w2 wx)
  case first =>
    cases hl with
    | false =>
      have HE : Hid (P3 = []) := HP3.out.symm
      clear HNS HP3
      go_wp2_with fail
      go_meet
      exact ⟨by (rw [HE.out, List.append_nil]) <;> rfl, HN6.out⟩
    | true =>
      have HE : Hid (P3 = [2] ++ szB (lcsB ls)) := HP3.out.symm
      have hl30 : ls.length ≤ 30 := HZ.out.2.2.1
      have HT := hid (fun w => num0_any ls.length w (by omega))
      have hwr : IntKind.u32.wrap (ls.length : Int) = ls.length := IntWalk.u32_in _ (by omega)
      have hwr2 : RowKit.wrap32 (ls.length : Int) = ls.length := by unfold RowKit.wrap32; omega
      have H2 := hid (fun w => valsL_any (lcsB ls) w (by omega))
      obtain ⟨_, _, e, hat⟩ := e2_at HL.out
      cases e
      have HAT := hid hat
      clear HNS HP3 hat
      go_wp2_with fail
      refine (HT.out _).mono ?_
      rintro e w7 ⟨rfl, hn7⟩
      have HN7 := hid (New.trans HN6.out hn7)
      clear hn7 z0 z1 z2 z3 z4 z5 hwr hwr2
      go_wp2_with fail
      go_loopw [6, 7] (fun o c wr => ∃ (i : Nat) (d : List UInt8), c = .int .i64 i ∧ i ≤ ls.length ∧ o = .string ⟨d.toArray⟩ ∧ d = encU ls.length 0 ++ (ls.take i).flatMap lcB ∧ New w2 wr) (fun _ c _ => ls.length - (intOf c).toNat)
      case atStart => exact ⟨0, _, rfl, by omega, rfl, by simp, HN7.out⟩
      case round =>
        obtain ⟨i, d, rfl, hi1, rfl, hd, hnw⟩ := hrel
        obtain ⟨z0, z1, z2, z3, z4, z5⟩ := NBox.cs (hp1 HB.out hnw)
        simp only at z0 z1 z2 z3 z4 z5
        by_cases hi : i < ls.length
        · obtain ⟨b, o, u, rfl, hc0, hc1, hu⟩ := HAT.out i hi
          have hu : RdE 2 (E2 FN) w B u ls[i].2 := hu
          obtain ⟨ua, uc, rfl⟩ := hu.shape
          have hg1 : ls[i]? = some ls[i] := List.getElem?_eq_getElem hi
          have hsz : ls[i].1 < 4294967296 ∧ PzN ls[i].2 := HZ.out.2.2.2 _ (List.getElem_mem hi)
          have hfl : ((ls.take i).flatMap lcB).length ≤ 2709300 := lcs_flat HZ.out.2.2 i
          have q0 := hid hc0
          have q1 := hid hc1
          generalize ls[i] = x at *
          obtain ⟨n, s⟩ := x
          simp only at q0 q1 hsz hu
          have h5 := encU_five (v := ls.length) (by omega)
          have hdl : d.length ≤ 2710000 := by rw [hd, List.length_append]; omega
          have h6 := encU_five (v := n) hsz.1
          have h7 := nmsB_len hsz.2
          have HG2 : Hid (encU ls.length 0 ++ (ls.take (i + 1)).flatMap lcB = (d ++ encU n 0) ++ nmsB s) := by
            show _ = _
            rw [List.take_add_one, hg1, hd]
            simp [lcB]
          have HNU := hid (fun w => num0_any n w hsz.1)
          have HVA := hid (fun w' (hn : New w w') => rPutList_any (.slice ua s.length uc) s w' (hu.new (E2.ok FN.ok) hn) hsz.2)
          have hcc1 : ¬ 9223372036854775807 < d.length + (encU n 0).length := by omega
          have hcc2 : ¬ 9223372036854775807 < d.length + (encU n 0).length + (nmsB s).length := by omega
          have hcc3 : ¬ 9223372036854775807 < d.length + ((encU n 0).length + (nmsB s).length) := by omega
          have hn : New w2 wr.drew := hnw.drew
          clear hg1 hc0 hc1 hsz hfl hd hnw hu h5
          go_wp2_with fail
          clear z0 z1 z2 z3 z4 z5
          refine wp_region_noPanic ?_
          refine wp_region_held_drew (S := (New w2)) (by kernel_rfl) (by first | exact hn | exact (Upd.refl _ _).drew | exact Upd.drew (by assumption)) (fun hn => ?_)
          generalize wr.drew = wd at *
          refine wpAnyH_take (i := 0) (oi := { dst := some 43, op := Op.move (Operand.tmp 6), type := 9, pos := "ref.go:106", after := #[], guard := none }) (v := ?v64x1) rfl (by kernel_rfl) (by kernel_rfl) (by kernel_rfl) (fun _ _ _ h => h) (Or.inl ⟨by rfl, ?y64x1⟩) hn ?r64x1
          case y64x1 => (intro wS hS; (try go_simp); (try with_reducible rfl))
          try simp only [Act.put, List.setIfInBounds_toArray, List.set_cons_zero, List.set_cons_succ]
          refine wpAnyH_take (i := 1) (oi := { dst := some 44, op := Op.fieldAddr 45 (Operand.tmp 2) 5, type := 0, pos := "ref.go:106", after := #[], guard := none }) (v := ?v64x2) rfl (by kernel_rfl) (by kernel_rfl) (by kernel_rfl) (fun _ _ _ h => h) (Or.inl ⟨by rfl, ?y64x2⟩) hn ?r64x2
          case y64x2 => (intro wS hS; (try go_simp); (try with_reducible rfl))
          try simp only [Act.put, List.setIfInBounds_toArray, List.set_cons_zero, List.set_cons_succ]
          refine wpAnyH_take (i := 2) (oi := { dst := some 45, op := Op.load 43 (Operand.tmp 44), type := 43, pos := "ref.go:106", after := #[{ on := 1, ground := Ground.data }], guard := none }) (v := ?v64x3) rfl (by kernel_rfl) (by kernel_rfl) (by kernel_rfl) (fun _ _ _ h => h) (Or.inl ⟨by rfl, ?y64x3⟩) hn ?r64x3
          case y64x3 => (intro wS hS; have c0 := cellAt (hp1 HB.out hS) 5 (v := .slice (some ⟨b, o, none⟩) ls.length c2) rfl; (try go_simp); (try with_reducible rfl))
          try simp only [Act.put, List.setIfInBounds_toArray, List.set_cons_zero, List.set_cons_succ]
          refine wpAnyH_take (i := 3) (oi := { dst := some 46, op := Op.move (Operand.tmp 7), type := 3, pos := "ref.go:106", after := #[], guard := none }) (v := ?v64x4) rfl (by kernel_rfl) (by kernel_rfl) (by kernel_rfl) (fun _ _ _ h => h) (Or.inl ⟨by rfl, ?y64x4⟩) hn ?r64x4
          case y64x4 => (intro wS hS; (try go_simp); (try with_reducible rfl))
          try simp only [Act.put, List.setIfInBounds_toArray, List.set_cons_zero, List.set_cons_succ]
          refine wpAnyH_take (i := 4) (oi := { dst := some 47, op := Op.indexAddr 43 (Operand.tmp 45) (Operand.tmp 46), type := 0, pos := "ref.go:106", after := #[{ on := 2, ground := Ground.data }, { on := 3, ground := Ground.data }], guard := none }) (v := ?v64x5) rfl (by kernel_rfl) (by kernel_rfl) (by kernel_rfl) (fun _ _ _ h => h) (Or.inl ⟨by rfl, ?y64x5⟩) hn ?r64x5
          case y64x5 => (intro wS hS; (try go_simp); (try with_reducible rfl))
          try simp only [Act.put, List.setIfInBounds_toArray, List.set_cons_zero, List.set_cons_succ]
          refine wpAnyH_take (i := 5) (oi := { dst := some 48, op := Op.fieldAddr 88 (Operand.tmp 47) 0, type := 0, pos := "ref.go:106", after := #[{ on := 4, ground := Ground.data }], guard := none }) (v := ?v64x6) rfl (by kernel_rfl) (by kernel_rfl) (by kernel_rfl) (fun _ _ _ h => h) (Or.inl ⟨by rfl, ?y64x6⟩) hn ?r64x6
          case y64x6 => (intro wS hS; (try go_simp); (try with_reducible rfl))
          try simp only [Act.put, List.setIfInBounds_toArray, List.set_cons_zero, List.set_cons_succ]
          refine wpAnyH_take (i := 6) (oi := { dst := some 49, op := Op.load 22 (Operand.tmp 48), type := 22, pos := "ref.go:106", after := #[{ on := 5, ground := Ground.data }], guard := none }) (v := ?v64x7) rfl (by kernel_rfl) (by kernel_rfl) (by kernel_rfl) (fun _ _ _ h => h) (Or.inl ⟨by rfl, ?y64x7⟩) hn ?r64x7
          case y64x7 => (intro wS hS; have c0 := (New.trans HN.out hS).cell q0.out (fun h => h); (try go_simp); (try with_reducible rfl))
          try simp only [Act.put, List.setIfInBounds_toArray, List.set_cons_zero, List.set_cons_succ]
          refine wpAnyH_take (i := 7) (oi := { dst := some 50, op := Op.move (Operand.tmp 1), type := 3, pos := "ref.go:106", after := #[], guard := none }) (v := ?v64x8) rfl (by kernel_rfl) (by kernel_rfl) (by kernel_rfl) (fun _ _ _ h => h) (Or.inl ⟨by rfl, ?y64x8⟩) hn ?r64x8
          case y64x8 => (intro wS hS; (try go_simp); (try with_reducible rfl))
          try simp only [Act.put, List.setIfInBounds_toArray, List.set_cons_zero, List.set_cons_succ]
          refine wpAnyH_take (i := 10) (oi := { dst := some 53, op := Op.fieldAddr 45 (Operand.tmp 2) 5, type := 0, pos := "ref.go:106", after := #[], guard := none }) (v := ?v64x9) rfl (by kernel_rfl) (by kernel_rfl) (by kernel_rfl) (fun _ _ _ h => h) (Or.inl ⟨by rfl, ?y64x9⟩) hn ?r64x9
          case y64x9 => (intro wS hS; (try go_simp); (try with_reducible rfl))
          try simp only [Act.put, List.setIfInBounds_toArray, List.set_cons_zero, List.set_cons_succ]
          refine wpAnyH_take (i := 11) (oi := { dst := some 54, op := Op.load 43 (Operand.tmp 53), type := 43, pos := "ref.go:106", after := #[{ on := 10, ground := Ground.data }], guard := none }) (v := ?v64x10) rfl (by kernel_rfl) (by kernel_rfl) (by kernel_rfl) (fun _ _ _ h => h) (Or.inl ⟨by rfl, ?y64x10⟩) hn ?r64x10
          case y64x10 => (intro wS hS; have c0 := cellAt (hp1 HB.out hS) 5 (v := .slice (some ⟨b, o, none⟩) ls.length c2) rfl; (try go_simp); (try with_reducible rfl))
          try simp only [Act.put, List.setIfInBounds_toArray, List.set_cons_zero, List.set_cons_succ]
          refine wpAnyH_take (i := 12) (oi := { dst := some 55, op := Op.move (Operand.tmp 7), type := 3, pos := "ref.go:106", after := #[], guard := none }) (v := ?v64x11) rfl (by kernel_rfl) (by kernel_rfl) (by kernel_rfl) (fun _ _ _ h => h) (Or.inl ⟨by rfl, ?y64x11⟩) hn ?r64x11
          case y64x11 => (intro wS hS; (try go_simp); (try with_reducible rfl))
          try simp only [Act.put, List.setIfInBounds_toArray, List.set_cons_zero, List.set_cons_succ]
          refine wpAnyH_take (i := 13) (oi := { dst := some 56, op := Op.indexAddr 43 (Operand.tmp 54) (Operand.tmp 55), type := 0, pos := "ref.go:106", after := #[{ on := 11, ground := Ground.data }, { on := 12, ground := Ground.data }], guard := none }) (v := ?v64x12) rfl (by kernel_rfl) (by kernel_rfl) (by kernel_rfl) (fun _ _ _ h => h) (Or.inl ⟨by rfl, ?y64x12⟩) hn ?r64x12
          case y64x12 => (intro wS hS; (try go_simp); (try with_reducible rfl))
          try simp only [Act.put, List.setIfInBounds_toArray, List.set_cons_zero, List.set_cons_succ]
          refine wpAnyH_take (i := 14) (oi := { dst := some 57, op := Op.fieldAddr 88 (Operand.tmp 56) 1, type := 0, pos := "ref.go:106", after := #[{ on := 13, ground := Ground.data }], guard := none }) (v := ?v64x13) rfl (by kernel_rfl) (by kernel_rfl) (by kernel_rfl) (fun _ _ _ h => h) (Or.inl ⟨by rfl, ?y64x13⟩) hn ?r64x13
          case y64x13 => (intro wS hS; (try go_simp); (try with_reducible rfl))
          try simp only [Act.put, List.setIfInBounds_toArray, List.set_cons_zero, List.set_cons_succ]
          refine wpAnyH_take (i := 15) (oi := { dst := some 58, op := Op.load 42 (Operand.tmp 57), type := 42, pos := "ref.go:106", after := #[{ on := 14, ground := Ground.data }], guard := none }) (v := ?v64x14) rfl (by kernel_rfl) (by kernel_rfl) (by kernel_rfl) (fun _ _ _ h => h) (Or.inl ⟨by rfl, ?y64x14⟩) hn ?r64x14
          case y64x14 => (intro wS hS; have c0 := (New.trans HN.out hS).cell q1.out (fun h => h); (try go_simp); (try with_reducible rfl))
          try simp only [Act.put, List.setIfInBounds_toArray, List.set_cons_zero, List.set_cons_succ]
          refine wpAnyH_take (i := 16) (oi := { dst := some 59, op := Op.move (Operand.tmp 1), type := 3, pos := "ref.go:106", after := #[], guard := none }) (v := ?v64x15) rfl (by kernel_rfl) (by kernel_rfl) (by kernel_rfl) (fun _ _ _ h => h) (Or.inl ⟨by rfl, ?y64x15⟩) hn ?r64x15
          case y64x15 => (intro wS hS; (try go_simp); (try with_reducible rfl))
          try simp only [Act.put, List.setIfInBounds_toArray, List.set_cons_zero, List.set_cons_succ]
          refine wpAnyH_ready (rs := [8]) (by kernel_rfl) (by simp) ?_
          refine AllReadyH.cons (o := { dst := some 51, op := Op.call { callee := Callee.value (Operand.func 44), args := #[Operand.tmp 49, Operand.tmp 50], argTypes := #[22, 3] }, type := 9, pos := "ref.go:106", after := #[{ on := 6, ground := Ground.data }, { on := 7, ground := Ground.data }], guard := none }) rfl (fun K hK => ?_) AllReadyH.nil
          go_simp
          refine (HNU.out _).mono ?_
          rintro e wq ⟨rfl, hnq⟩
          go_wp2_with fail
          have hn := New.trans hn hnq
          refine hK.out _ _ (by first | exact hn | exact Upd.alloc hn _) (fun hn => ?_)
          clear hK K
          try simp only [Act.put, List.setIfInBounds_toArray, List.set_cons_zero, List.set_cons_succ]
          refine wpAnyH_take (i := 9) (oi := { dst := some 52, op := Op.binOp BinOp.add 9 (Operand.tmp 43) (Operand.tmp 51) 9, type := 9, pos := "ref.go:106", after := #[{ on := 0, ground := Ground.data }, { on := 8, ground := Ground.data }], guard := none }) (v := ?v64x16) rfl (by kernel_rfl) (by kernel_rfl) (by kernel_rfl) (fun _ _ _ h => h) (Or.inl ⟨by rfl, ?y64x16⟩) hn ?r64x16
          case y64x16 => (intro wS hS; (try go_simp); (try with_reducible rfl))
          try simp only [Act.put, List.setIfInBounds_toArray, List.set_cons_zero, List.set_cons_succ]
          refine wpAnyH_ready (rs := [17]) (by kernel_rfl) (by simp) ?_
          refine AllReadyH.cons (o := { dst := some 60, op := Op.call { callee := Callee.value (Operand.func 63), args := #[Operand.tmp 58, Operand.tmp 59], argTypes := #[42, 3] }, type := 9, pos := "ref.go:106", after := #[{ on := 15, ground := Ground.data }, { on := 16, ground := Ground.data }, { on := 8, ground := Ground.chain }], guard := none }) rfl (fun K hK => ?_) AllReadyH.nil
          go_simp
          refine (HVA.out _ (New.trans HN.out hn)).mono ?_
          rintro e wt ⟨rfl, hnq⟩
          go_wp2_with fail
          have hn := New.trans hn hnq
          refine hK.out _ _ (by first | exact hn | exact Upd.alloc hn _) (fun hn => ?_)
          clear hK K
          try simp only [Act.put, List.setIfInBounds_toArray, List.set_cons_zero, List.set_cons_succ]
          refine wpAnyH_take (i := 18) (oi := { dst := some 61, op := Op.binOp BinOp.add 9 (Operand.tmp 52) (Operand.tmp 60) 9, type := 9, pos := "ref.go:106", after := #[{ on := 9, ground := Ground.data }, { on := 17, ground := Ground.data }], guard := none }) (v := ?v64x17) rfl (by kernel_rfl) (by kernel_rfl) (by kernel_rfl) (fun _ _ _ h => h) (Or.inl ⟨by rfl, ?y64x17⟩) hn ?r64x17
          case y64x17 => (intro wS hS; (try go_simp); (try with_reducible rfl))
          try simp only [Act.put, List.setIfInBounds_toArray, List.set_cons_zero, List.set_cons_succ]
          refine wpAnyH_take (i := 19) (oi := { dst := some 6, op := Op.assign (Operand.tmp 61), type := 9, pos := "ref.go:106", after := #[{ on := 18, ground := Ground.data }, { on := 17, ground := Ground.chain }, { on := 0, ground := Ground.phase }, { on := 1, ground := Ground.phase }, { on := 2, ground := Ground.phase }, { on := 3, ground := Ground.phase }, { on := 4, ground := Ground.phase }, { on := 5, ground := Ground.phase }, { on := 6, ground := Ground.phase }, { on := 7, ground := Ground.phase }, { on := 8, ground := Ground.phase }, { on := 9, ground := Ground.phase }, { on := 10, ground := Ground.phase }, { on := 11, ground := Ground.phase }, { on := 12, ground := Ground.phase }, { on := 13, ground := Ground.phase }, { on := 14, ground := Ground.phase }, { on := 15, ground := Ground.phase }, { on := 16, ground := Ground.phase }, { on := 17, ground := Ground.phase }, { on := 18, ground := Ground.phase }], guard := none }) (v := ?v64x18) rfl (by kernel_rfl) (by kernel_rfl) (by kernel_rfl) (fun _ _ _ h => h) (Or.inl ⟨by rfl, ?y64x18⟩) hn ?r64x18
          case y64x18 => (intro wS hS; (try go_simp); (try with_reducible rfl))
          try simp only [Act.put, List.setIfInBounds_toArray, List.set_cons_zero, List.set_cons_succ]
          refine wpAnyH_done (by kernel_rfl) ?_ _
          refine NoPanic.normal ?_
          have HH := hid hn
          clear hn hcc1 hcc2 hcc3
          go_wp2_with fail
          go_roundw
          case rel => exact ⟨i + 1, (d ++ encU n 0) ++ nmsB s, by go_num, by omega, by simp only [st_cat], HG2.out.symm, HH.out⟩
          case measure => (simp [intOf]; omega)
        · have e : i = ls.length := by omega
          subst e
          rw [List.take_length] at hd
          have hd : d = lcsB ls := hd
          subst hd
          have HN8 := hid hnw
          have hcc : ¬ 9223372036854775807 < pre.length + 1 := by omega
          have hcc2 : ¬ 9223372036854775807 < pre.length + 1 + (szB (lcsB ls)).length := by omega
          have hcc3 : ¬ 9223372036854775807 < pre.length + (1 + (szB (lcsB ls)).length) := by omega
          clear hnw
          go_wp2_with fail
          refine (H2.out _).mono ?_
          rintro e w9 ⟨rfl, hn9⟩
          have HN9 := hid (New.trans HN8.out hn9)
          clear hn9 z0 z1 z2 z3 z4 z5
          go_wp2_with fail
          go_meet
          refine ⟨?_, HN9.out⟩
          rw [HE.out, ← List.append_assoc, ← st_cat, ← st_cat]
          all_goals rfl
  case rest =>
  obtain ⟨rfl, hn⟩ := hcut
  have HN9 := hid hn
  clear hn z0 z1 z2 z3 z4 z5
  have HNS2 : Hid (nsB ⟨hm, hf, hl, md, fs, ls⟩ = pre ++ P3) := by show _ = _; rw [HNS.out, ← HPRE.out, List.append_assoc]
  go_wp2_with fail
  go_ret
  exact ⟨by rw [HNS2.out]; rfl, New.trans HN.out HN9.out⟩
end Go.Proofs.Ytnngibflnnmioaa
