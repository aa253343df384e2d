/-
  Names: whether they are the same: the program's Same, the document's alike.
-/
import Derived.Test.YtnngibflnnmioaaNmb
namespace Go.Proofs.Ytnngibflnnmioaa
open Go.RowKit Go.Proofs.Leb Go.Proofs.Own
set_option maxRecDepth 100000
set_option maxHeartbeats 4000000

theorem nm_at {w : World} {B : Nat → Prop} {v : Value} {xs : List (Nat × ByteArray)} (h : RdE 2 (E2 FN) w B v xs) : ∃ a cap, v = .slice a xs.length cap ∧ ∀ i (hi : i < xs.length), ∃ b o, a = some ⟨b, o, none⟩ ∧
    w.cell? ⟨b, o + i * 2, none⟩ = some (.int .u32 (xs[i].1 : Nat)) ∧ w.cell? ⟨b, o + i * 2 + 1, none⟩ = some (.string xs[i].2) := by
  obtain ⟨a, cap, rfl, hat⟩ := e2_at h
  refine ⟨a, cap, rfl, fun i hi => ?_⟩
  obtain ⟨b, o, u, rfl, h0, h1, h2⟩ := hat i hi
  have h2 : u = .string xs[i].2 := h2
  subst h2
  exact ⟨b, o, rfl, h0, h1⟩
def Pne (p q : Nat × ByteArray) : Prop := p ≠ q
theorem tl_ne {s t : ByteArray} (h : s ≠ t) : ¬ s.toList = t.toList := fun e => h (tl_inj e)
theorem eqNm60 {B B' : Nat → Prop} (x y : Value) (xs ys : List (Nat × ByteArray)) (w : World) (hx : RdE 2 (E2 FN) w B x xs) (hy : RdE 2 (E2 FN) w B' y ys) (h1 : xs.length ≤ 1000000) (_h2 : ys.length ≤ 1000000) :
    Calls Try.prog 60 #[x, y] w (SameP (xs = ys) w) := by
  obtain ⟨a, c, rfl, hcell⟩ := nm_at hx
  obtain ⟨a2, c2, rfl, hcell2⟩ := nm_at hy
  have hp : Try.prog.stoodInHeld 102 = false := by kernel_rfl
  have hg : Try.prog.eqGuardType Try.prog.depth 102 = false := by kernel_rfl
  have HX := hid hcell
  have HY := hid hcell2
  clear hx hy hcell hcell2
  by_cases hl : xs.length = ys.length
  · have hb : (((xs.length : Nat) : Int) != ((ys.length : Nat) : Int)) = false := by simp [hl]
    have HL := hid hl
    clear hl
    go_enter Try.func60, Try.ntmps60
    go_wp2_with fail
    go_loopw [13] (fun c wr => ∃ i : Nat, c = .int .i64 i ∧ i ≤ xs.length ∧ xs.take i = ys.take i ∧ New w wr) (fun c _ => xs.length - (intOf c).toNat)
    case atStart => exact ⟨0, rfl, by omega, by simp, Upd.refl _ _⟩
    case round =>
      obtain ⟨i, rfl, hi1, hi2, hnw⟩ := hrel
      by_cases hi : i < xs.length
      · have hi' : i < ys.length := by have := HL.out; omega
        obtain ⟨b, o, rfl, hc0, hc1⟩ := HX.out i hi
        obtain ⟨b2, o2, rfl, hd0, hd1⟩ := HY.out i hi'
        have q0 := hid hc0
        have q1 := hid hc1
        have r0 := hid hd0
        have r1 := hid hd1
        have hg1 : xs[i]? = some xs[i] := List.getElem?_eq_getElem hi
        have hg2 : ys[i]? = some ys[i] := List.getElem?_eq_getElem hi'
        clear hc0 hc1 hd0 hd1
        generalize hxe : xs[i] = p at *
        generalize hye : ys[i] = q at *
        have HG1 := hid hg1
        have HG2 := hid hg2
        have HI := hid hi2
        have HW := hid hnw
        clear hg1 hg2 hi2 hxe hye hnw
        obtain ⟨n, s⟩ := p
        obtain ⟨m, t⟩ := q
        by_cases hpq : n = m ∧ s = t
        · obtain ⟨rfl, rfl⟩ := hpq
          have hn : New w wr.drew := HW.out.drew
          go_wp2_with fail
          refine wp_region_noPanic ?_
          refine wp_region_held_drew (S := (New w)) (by kernel_rfl) (by first | exact hn | exact (Upd.refl _ _).drew | exact Upd.drew (by assumption)) (fun hn => ?_)
          generalize wr.drew = wd at *
          refine wpAnyH_take (i := 0) (oi := { dst := some 16, op := Op.move (Operand.tmp 0), type := 47, pos := "slices.go:25", after := #[], guard := none }) (v := ?v34x1) rfl (by kernel_rfl) (by kernel_rfl) (by kernel_rfl) (fun _ _ _ h => h) (Or.inl ⟨by rfl, ?y34x1⟩) hn ?r34x1
          case y34x1 => (intro wS hS; (try go_simp); (try with_reducible rfl))
          try simp only [Act.put, List.setIfInBounds_toArray, List.set_cons_zero, List.set_cons_succ]
          refine wpAnyH_take (i := 1) (oi := { dst := some 17, op := Op.move (Operand.tmp 5), type := 3, pos := "slices.go:25", after := #[], guard := none }) (v := ?v34x2) rfl (by kernel_rfl) (by kernel_rfl) (by kernel_rfl) (fun _ _ _ h => h) (Or.inl ⟨by rfl, ?y34x2⟩) hn ?r34x2
          case y34x2 => (intro wS hS; (try go_simp); (try with_reducible rfl))
          try simp only [Act.put, List.setIfInBounds_toArray, List.set_cons_zero, List.set_cons_succ]
          refine wpAnyH_take (i := 2) (oi := { dst := some 18, op := Op.indexAddr 47 (Operand.tmp 16) (Operand.tmp 17), type := 0, pos := "slices.go:25", after := #[{ on := 0, ground := Ground.data }, { on := 1, ground := Ground.data }], guard := none }) (v := ?v34x3) rfl (by kernel_rfl) (by kernel_rfl) (by kernel_rfl) (fun _ _ _ h => h) (Or.inl ⟨by rfl, ?y34x3⟩) hn ?r34x3
          case y34x3 => (intro wS hS; (try go_simp); (try with_reducible rfl))
          try simp only [Act.put, List.setIfInBounds_toArray, List.set_cons_zero, List.set_cons_succ]
          refine wpAnyH_take (i := 3) (oi := { dst := some 19, op := Op.load 102 (Operand.tmp 18), type := 102, pos := "slices.go:25", after := #[{ on := 2, ground := Ground.data }], guard := none }) (v := ?v34x4) rfl (by kernel_rfl) (by kernel_rfl) (by kernel_rfl) (fun _ _ _ h => h) (Or.inl ⟨by rfl, ?y34x4⟩) hn ?r34x4
          case y34x4 => (intro wS hS; have c0 := hS.cell q0.out (fun h => h); have c1 := hS.cell q1.out (fun h => h); (try go_simp); (try with_reducible rfl))
          try simp only [Act.put, List.setIfInBounds_toArray, List.set_cons_zero, List.set_cons_succ]
          refine wpAnyH_take (i := 4) (oi := { dst := some 20, op := Op.move (Operand.tmp 1), type := 47, pos := "slices.go:25", after := #[], guard := none }) (v := ?v34x5) rfl (by kernel_rfl) (by kernel_rfl) (by kernel_rfl) (fun _ _ _ h => h) (Or.inl ⟨by rfl, ?y34x5⟩) hn ?r34x5
          case y34x5 => (intro wS hS; (try go_simp); (try with_reducible rfl))
          try simp only [Act.put, List.setIfInBounds_toArray, List.set_cons_zero, List.set_cons_succ]
          refine wpAnyH_take (i := 5) (oi := { dst := some 21, op := Op.move (Operand.tmp 5), type := 3, pos := "slices.go:25", after := #[], guard := none }) (v := ?v34x6) rfl (by kernel_rfl) (by kernel_rfl) (by kernel_rfl) (fun _ _ _ h => h) (Or.inl ⟨by rfl, ?y34x6⟩) hn ?r34x6
          case y34x6 => (intro wS hS; (try go_simp); (try with_reducible rfl))
          try simp only [Act.put, List.setIfInBounds_toArray, List.set_cons_zero, List.set_cons_succ]
          refine wpAnyH_take (i := 6) (oi := { dst := some 22, op := Op.indexAddr 47 (Operand.tmp 20) (Operand.tmp 21), type := 0, pos := "slices.go:25", after := #[{ on := 4, ground := Ground.data }, { on := 5, ground := Ground.data }], guard := none }) (v := ?v34x7) rfl (by kernel_rfl) (by kernel_rfl) (by kernel_rfl) (fun _ _ _ h => h) (Or.inl ⟨by rfl, ?y34x7⟩) hn ?r34x7
          case y34x7 => (intro wS hS; (try go_simp); (try with_reducible rfl))
          try simp only [Act.put, List.setIfInBounds_toArray, List.set_cons_zero, List.set_cons_succ]
          refine wpAnyH_take (i := 7) (oi := { dst := some 23, op := Op.load 102 (Operand.tmp 22), type := 102, pos := "slices.go:25", after := #[{ on := 6, ground := Ground.data }], guard := none }) (v := ?v34x8) rfl (by kernel_rfl) (by kernel_rfl) (by kernel_rfl) (fun _ _ _ h => h) (Or.inl ⟨by rfl, ?y34x8⟩) hn ?r34x8
          case y34x8 => (intro wS hS; have c0 := hS.cell r0.out (fun h => h); have c1 := hS.cell r1.out (fun h => h); (try go_simp); (try with_reducible rfl))
          try simp only [Act.put, List.setIfInBounds_toArray, List.set_cons_zero, List.set_cons_succ]
          refine wpAnyH_take (i := 8) (oi := { dst := some 24, op := Op.binOp BinOp.neq 102 (Operand.tmp 19) (Operand.tmp 23) 102, type := 4, pos := "slices.go:25", after := #[{ on := 3, ground := Ground.data }, { on := 7, ground := Ground.data }], guard := none }) (v := ?v34x9) rfl (by kernel_rfl) (by kernel_rfl) (by kernel_rfl) (fun _ _ _ h => h) (Or.inl ⟨by rfl, ?y34x9⟩) hn ?r34x9
          case y34x9 => (intro wS hS; go_simp; (try go_simp); (try with_reducible rfl))
          try simp only [Act.put, List.setIfInBounds_toArray, List.set_cons_zero, List.set_cons_succ]
          refine wpAnyH_done (by kernel_rfl) ?_ _
          refine NoPanic.normal ?_
          have HH := hid hn
          clear hn
          go_wp2_with fail
          go_roundw
          case rel => exact ⟨i + 1, by go_num, by omega, take_eq_step HI.out HG1.out HG2.out, HH.out⟩
          case measure => (simp [intOf]; omega)
        · by_cases hnm : n = m
          · subst hnm
            have hst : s ≠ t := fun e => hpq ⟨rfl, e⟩
            have hs1 : (s.toList = t.toList) = False := eq_false (tl_ne hst)
            have HP : Pne (n, s) (_, t) := fun e => hpq (Prod.mk.inj e)
            clear hpq hst
            have hn : New w wr.drew := HW.out.drew
            go_wp2_with fail
            refine wp_region_noPanic ?_
            refine wp_region_held_drew (S := (New w)) (by kernel_rfl) (by first | exact hn | exact (Upd.refl _ _).drew | exact Upd.drew (by assumption)) (fun hn => ?_)
            generalize wr.drew = wd at *
            refine wpAnyH_take (i := 0) (oi := { dst := some 16, op := Op.move (Operand.tmp 0), type := 47, pos := "slices.go:25", after := #[], guard := none }) (v := ?v35x1) rfl (by kernel_rfl) (by kernel_rfl) (by kernel_rfl) (fun _ _ _ h => h) (Or.inl ⟨by rfl, ?y35x1⟩) hn ?r35x1
            case y35x1 => (intro wS hS; (try go_simp); (try with_reducible rfl))
            try simp only [Act.put, List.setIfInBounds_toArray, List.set_cons_zero, List.set_cons_succ]
            refine wpAnyH_take (i := 1) (oi := { dst := some 17, op := Op.move (Operand.tmp 5), type := 3, pos := "slices.go:25", after := #[], guard := none }) (v := ?v35x2) rfl (by kernel_rfl) (by kernel_rfl) (by kernel_rfl) (fun _ _ _ h => h) (Or.inl ⟨by rfl, ?y35x2⟩) hn ?r35x2
            case y35x2 => (intro wS hS; (try go_simp); (try with_reducible rfl))
            try simp only [Act.put, List.setIfInBounds_toArray, List.set_cons_zero, List.set_cons_succ]
            refine wpAnyH_take (i := 2) (oi := { dst := some 18, op := Op.indexAddr 47 (Operand.tmp 16) (Operand.tmp 17), type := 0, pos := "slices.go:25", after := #[{ on := 0, ground := Ground.data }, { on := 1, ground := Ground.data }], guard := none }) (v := ?v35x3) rfl (by kernel_rfl) (by kernel_rfl) (by kernel_rfl) (fun _ _ _ h => h) (Or.inl ⟨by rfl, ?y35x3⟩) hn ?r35x3
            case y35x3 => (intro wS hS; (try go_simp); (try with_reducible rfl))
            try simp only [Act.put, List.setIfInBounds_toArray, List.set_cons_zero, List.set_cons_succ]
            refine wpAnyH_take (i := 3) (oi := { dst := some 19, op := Op.load 102 (Operand.tmp 18), type := 102, pos := "slices.go:25", after := #[{ on := 2, ground := Ground.data }], guard := none }) (v := ?v35x4) rfl (by kernel_rfl) (by kernel_rfl) (by kernel_rfl) (fun _ _ _ h => h) (Or.inl ⟨by rfl, ?y35x4⟩) hn ?r35x4
            case y35x4 => (intro wS hS; have c0 := hS.cell q0.out (fun h => h); have c1 := hS.cell q1.out (fun h => h); (try go_simp); (try with_reducible rfl))
            try simp only [Act.put, List.setIfInBounds_toArray, List.set_cons_zero, List.set_cons_succ]
            refine wpAnyH_take (i := 4) (oi := { dst := some 20, op := Op.move (Operand.tmp 1), type := 47, pos := "slices.go:25", after := #[], guard := none }) (v := ?v35x5) rfl (by kernel_rfl) (by kernel_rfl) (by kernel_rfl) (fun _ _ _ h => h) (Or.inl ⟨by rfl, ?y35x5⟩) hn ?r35x5
            case y35x5 => (intro wS hS; (try go_simp); (try with_reducible rfl))
            try simp only [Act.put, List.setIfInBounds_toArray, List.set_cons_zero, List.set_cons_succ]
            refine wpAnyH_take (i := 5) (oi := { dst := some 21, op := Op.move (Operand.tmp 5), type := 3, pos := "slices.go:25", after := #[], guard := none }) (v := ?v35x6) rfl (by kernel_rfl) (by kernel_rfl) (by kernel_rfl) (fun _ _ _ h => h) (Or.inl ⟨by rfl, ?y35x6⟩) hn ?r35x6
            case y35x6 => (intro wS hS; (try go_simp); (try with_reducible rfl))
            try simp only [Act.put, List.setIfInBounds_toArray, List.set_cons_zero, List.set_cons_succ]
            refine wpAnyH_take (i := 6) (oi := { dst := some 22, op := Op.indexAddr 47 (Operand.tmp 20) (Operand.tmp 21), type := 0, pos := "slices.go:25", after := #[{ on := 4, ground := Ground.data }, { on := 5, ground := Ground.data }], guard := none }) (v := ?v35x7) rfl (by kernel_rfl) (by kernel_rfl) (by kernel_rfl) (fun _ _ _ h => h) (Or.inl ⟨by rfl, ?y35x7⟩) hn ?r35x7
            case y35x7 => (intro wS hS; (try go_simp); (try with_reducible rfl))
            try simp only [Act.put, List.setIfInBounds_toArray, List.set_cons_zero, List.set_cons_succ]
            refine wpAnyH_take (i := 7) (oi := { dst := some 23, op := Op.load 102 (Operand.tmp 22), type := 102, pos := "slices.go:25", after := #[{ on := 6, ground := Ground.data }], guard := none }) (v := ?v35x8) rfl (by kernel_rfl) (by kernel_rfl) (by kernel_rfl) (fun _ _ _ h => h) (Or.inl ⟨by rfl, ?y35x8⟩) hn ?r35x8
            case y35x8 => (intro wS hS; have c0 := hS.cell r0.out (fun h => h); have c1 := hS.cell r1.out (fun h => h); (try go_simp); (try with_reducible rfl))
            try simp only [Act.put, List.setIfInBounds_toArray, List.set_cons_zero, List.set_cons_succ]
            refine wpAnyH_take (i := 8) (oi := { dst := some 24, op := Op.binOp BinOp.neq 102 (Operand.tmp 19) (Operand.tmp 23) 102, type := 4, pos := "slices.go:25", after := #[{ on := 3, ground := Ground.data }, { on := 7, ground := Ground.data }], guard := none }) (v := ?v35x9) rfl (by kernel_rfl) (by kernel_rfl) (by kernel_rfl) (fun _ _ _ h => h) (Or.inl ⟨by rfl, ?y35x9⟩) hn ?r35x9
            case y35x9 => (intro wS hS; go_simp; (try go_simp); (try with_reducible rfl))
            try simp only [Act.put, List.setIfInBounds_toArray, List.set_cons_zero, List.set_cons_succ]
            refine wpAnyH_done (by kernel_rfl) ?_ _
            refine NoPanic.normal ?_
            have HH := hid hn
            clear hn
            go_wp2_with fail
            go_ret
            exact ⟨_, rfl, iff_of_false (by decide) (get_ne HG1.out HG2.out HP), HH.out⟩
          · have hs1 : ((n : Int) = (m : Int)) = False := eq_false (by omega)
            have hs2 : (n = m) = False := eq_false hnm
            have HP : Pne (n, s) (m, t) := fun e => hpq (Prod.mk.inj e)
            clear hpq hnm
            have hn : New w wr.drew := HW.out.drew
            go_wp2_with fail
            refine wp_region_noPanic ?_
            refine wp_region_held_drew (S := (New w)) (by kernel_rfl) (by first | exact hn | exact (Upd.refl _ _).drew | exact Upd.drew (by assumption)) (fun hn => ?_)
            generalize wr.drew = wd at *
            refine wpAnyH_take (i := 0) (oi := { dst := some 16, op := Op.move (Operand.tmp 0), type := 47, pos := "slices.go:25", after := #[], guard := none }) (v := ?v36x1) rfl (by kernel_rfl) (by kernel_rfl) (by kernel_rfl) (fun _ _ _ h => h) (Or.inl ⟨by rfl, ?y36x1⟩) hn ?r36x1
            case y36x1 => (intro wS hS; (try go_simp); (try with_reducible rfl))
            try simp only [Act.put, List.setIfInBounds_toArray, List.set_cons_zero, List.set_cons_succ]
            refine wpAnyH_take (i := 1) (oi := { dst := some 17, op := Op.move (Operand.tmp 5), type := 3, pos := "slices.go:25", after := #[], guard := none }) (v := ?v36x2) rfl (by kernel_rfl) (by kernel_rfl) (by kernel_rfl) (fun _ _ _ h => h) (Or.inl ⟨by rfl, ?y36x2⟩) hn ?r36x2
            case y36x2 => (intro wS hS; (try go_simp); (try with_reducible rfl))
            try simp only [Act.put, List.setIfInBounds_toArray, List.set_cons_zero, List.set_cons_succ]
            refine wpAnyH_take (i := 2) (oi := { dst := some 18, op := Op.indexAddr 47 (Operand.tmp 16) (Operand.tmp 17), type := 0, pos := "slices.go:25", after := #[{ on := 0, ground := Ground.data }, { on := 1, ground := Ground.data }], guard := none }) (v := ?v36x3) rfl (by kernel_rfl) (by kernel_rfl) (by kernel_rfl) (fun _ _ _ h => h) (Or.inl ⟨by rfl, ?y36x3⟩) hn ?r36x3
            case y36x3 => (intro wS hS; (try go_simp); (try with_reducible rfl))
            try simp only [Act.put, List.setIfInBounds_toArray, List.set_cons_zero, List.set_cons_succ]
            refine wpAnyH_take (i := 3) (oi := { dst := some 19, op := Op.load 102 (Operand.tmp 18), type := 102, pos := "slices.go:25", after := #[{ on := 2, ground := Ground.data }], guard := none }) (v := ?v36x4) rfl (by kernel_rfl) (by kernel_rfl) (by kernel_rfl) (fun _ _ _ h => h) (Or.inl ⟨by rfl, ?y36x4⟩) hn ?r36x4
            case y36x4 => (intro wS hS; have c0 := hS.cell q0.out (fun h => h); have c1 := hS.cell q1.out (fun h => h); (try go_simp); (try with_reducible rfl))
            try simp only [Act.put, List.setIfInBounds_toArray, List.set_cons_zero, List.set_cons_succ]
            refine wpAnyH_take (i := 4) (oi := { dst := some 20, op := Op.move (Operand.tmp 1), type := 47, pos := "slices.go:25", after := #[], guard := none }) (v := ?v36x5) rfl (by kernel_rfl) (by kernel_rfl) (by kernel_rfl) (fun _ _ _ h => h) (Or.inl ⟨by rfl, ?y36x5⟩) hn ?r36x5
            case y36x5 => (intro wS hS; (try go_simp); (try with_reducible rfl))
            try simp only [Act.put, List.setIfInBounds_toArray, List.set_cons_zero, List.set_cons_succ]
            refine wpAnyH_take (i := 5) (oi := { dst := some 21, op := Op.move (Operand.tmp 5), type := 3, pos := "slices.go:25", after := #[], guard := none }) (v := ?v36x6) rfl (by kernel_rfl) (by kernel_rfl) (by kernel_rfl) (fun _ _ _ h => h) (Or.inl ⟨by rfl, ?y36x6⟩) hn ?r36x6
            case y36x6 => (intro wS hS; (try go_simp); (try with_reducible rfl))
            try simp only [Act.put, List.setIfInBounds_toArray, List.set_cons_zero, List.set_cons_succ]
            refine wpAnyH_take (i := 6) (oi := { dst := some 22, op := Op.indexAddr 47 (Operand.tmp 20) (Operand.tmp 21), type := 0, pos := "slices.go:25", after := #[{ on := 4, ground := Ground.data }, { on := 5, ground := Ground.data }], guard := none }) (v := ?v36x7) rfl (by kernel_rfl) (by kernel_rfl) (by kernel_rfl) (fun _ _ _ h => h) (Or.inl ⟨by rfl, ?y36x7⟩) hn ?r36x7
            case y36x7 => (intro wS hS; (try go_simp); (try with_reducible rfl))
            try simp only [Act.put, List.setIfInBounds_toArray, List.set_cons_zero, List.set_cons_succ]
            refine wpAnyH_take (i := 7) (oi := { dst := some 23, op := Op.load 102 (Operand.tmp 22), type := 102, pos := "slices.go:25", after := #[{ on := 6, ground := Ground.data }], guard := none }) (v := ?v36x8) rfl (by kernel_rfl) (by kernel_rfl) (by kernel_rfl) (fun _ _ _ h => h) (Or.inl ⟨by rfl, ?y36x8⟩) hn ?r36x8
            case y36x8 => (intro wS hS; have c0 := hS.cell r0.out (fun h => h); have c1 := hS.cell r1.out (fun h => h); (try go_simp); (try with_reducible rfl))
            try simp only [Act.put, List.setIfInBounds_toArray, List.set_cons_zero, List.set_cons_succ]
            refine wpAnyH_take (i := 8) (oi := { dst := some 24, op := Op.binOp BinOp.neq 102 (Operand.tmp 19) (Operand.tmp 23) 102, type := 4, pos := "slices.go:25", after := #[{ on := 3, ground := Ground.data }, { on := 7, ground := Ground.data }], guard := none }) (v := ?v36x9) rfl (by kernel_rfl) (by kernel_rfl) (by kernel_rfl) (fun _ _ _ h => h) (Or.inl ⟨by rfl, ?y36x9⟩) hn ?r36x9
            case y36x9 => (intro wS hS; go_simp; (try go_simp); (try with_reducible rfl))
            try simp only [Act.put, List.setIfInBounds_toArray, List.set_cons_zero, List.set_cons_succ]
            refine wpAnyH_done (by kernel_rfl) ?_ _
            refine NoPanic.normal ?_
            have HH := hid hn
            clear hn
            go_wp2_with fail
            go_ret
            exact ⟨_, rfl, iff_of_false (by decide) (get_ne HG1.out HG2.out HP), HH.out⟩
      · have e : i = xs.length := by omega
        subst e
        have HI : Hid (xs = ys) := by
          show xs = ys
          have hl := HL.out
          rw [hl] at hi2
          rw [← hl, List.take_length, hl, List.take_length] at hi2
          exact hi2
        clear hi2
        have HW := hid hnw
        clear hnw
        go_wp2_with fail
        go_ret
        exact ⟨_, rfl, iff_of_true rfl HI.out, HW.out⟩
  · have hb : (((xs.length : Nat) : Int) != ((ys.length : Nat) : Int)) = true := by simp; omega
    have HL := hid hl
    clear hl
    go_enter Try.func60, Try.ntmps60
    go_wp2_with fail
    go_ret
    exact ⟨_, rfl, iff_of_false (by decide) (fun h => HL.out (congrArg List.length h)), Upd.refl _ _⟩
theorem eqNm62 {B B' : Nat → Prop} (x y : Value) (xs ys : List (Nat × ByteArray)) (w : World) (hx : RdE 2 (E2 FN) w B x xs) (hy : RdE 2 (E2 FN) w B' y ys) (h1 : xs.length ≤ 1000000) (_h2 : ys.length ≤ 1000000) :
    Calls Try.prog 62 #[x, y] w (SameP (xs = ys) w) := by
  obtain ⟨a, c, rfl, hcell⟩ := nm_at hx
  obtain ⟨a2, c2, rfl, hcell2⟩ := nm_at hy
  have hp : Try.prog.stoodInHeld 86 = false := by kernel_rfl
  have hg : Try.prog.eqGuardType Try.prog.depth 86 = false := by kernel_rfl
  have HX := hid hcell
  have HY := hid hcell2
  clear hx hy hcell hcell2
  by_cases hl : xs.length = ys.length
  · have hb : (((xs.length : Nat) : Int) != ((ys.length : Nat) : Int)) = false := by simp [hl]
    have HL := hid hl
    clear hl
    go_enter Try.func62, Try.ntmps62
    go_wp2_with fail
    go_loopw [5] (fun c wr => ∃ i : Nat, c = .int .i64 i ∧ i ≤ xs.length ∧ xs.take i = ys.take i ∧ New w wr) (fun c _ => xs.length - (intOf c).toNat)
    case atStart => exact ⟨0, rfl, by omega, by simp, Upd.refl _ _⟩
    case round =>
      obtain ⟨i, rfl, hi1, hi2, hnw⟩ := hrel
      by_cases hi : i < xs.length
      · have hi' : i < ys.length := by have := HL.out; omega
        obtain ⟨b, o, rfl, hc0, hc1⟩ := HX.out i hi
        obtain ⟨b2, o2, rfl, hd0, hd1⟩ := HY.out i hi'
        have q0 := hid hc0
        have q1 := hid hc1
        have r0 := hid hd0
        have r1 := hid hd1
        have hg1 : xs[i]? = some xs[i] := List.getElem?_eq_getElem hi
        have hg2 : ys[i]? = some ys[i] := List.getElem?_eq_getElem hi'
        clear hc0 hc1 hd0 hd1
        generalize hxe : xs[i] = p at *
        generalize hye : ys[i] = q at *
        have HG1 := hid hg1
        have HG2 := hid hg2
        have HI := hid hi2
        have HW := hid hnw
        clear hg1 hg2 hi2 hxe hye hnw
        obtain ⟨n, s⟩ := p
        obtain ⟨m, t⟩ := q
        by_cases hpq : n = m ∧ s = t
        · obtain ⟨rfl, rfl⟩ := hpq
          have hn : New w wr.drew := HW.out.drew
          go_wp2_with fail
          refine wp_region_noPanic ?_
          refine wp_region_held_drew (S := (New w)) (by kernel_rfl) (by first | exact hn | exact (Upd.refl _ _).drew | exact Upd.drew (by assumption)) (fun hn => ?_)
          generalize wr.drew = wd at *
          refine wpAnyH_take (i := 0) (oi := { dst := some 17, op := Op.move (Operand.tmp 0), type := 42, pos := "ref.go:65", after := #[], guard := none }) (v := ?v37x1) rfl (by kernel_rfl) (by kernel_rfl) (by kernel_rfl) (fun _ _ _ h => h) (Or.inl ⟨by rfl, ?y37x1⟩) hn ?r37x1
          case y37x1 => (intro wS hS; (try go_simp); (try with_reducible rfl))
          try simp only [Act.put, List.setIfInBounds_toArray, List.set_cons_zero, List.set_cons_succ]
          refine wpAnyH_take (i := 1) (oi := { dst := some 18, op := Op.move (Operand.tmp 5), type := 3, pos := "ref.go:65", after := #[], guard := none }) (v := ?v37x2) rfl (by kernel_rfl) (by kernel_rfl) (by kernel_rfl) (fun _ _ _ h => h) (Or.inl ⟨by rfl, ?y37x2⟩) hn ?r37x2
          case y37x2 => (intro wS hS; (try go_simp); (try with_reducible rfl))
          try simp only [Act.put, List.setIfInBounds_toArray, List.set_cons_zero, List.set_cons_succ]
          refine wpAnyH_take (i := 2) (oi := { dst := some 19, op := Op.indexAddr 42 (Operand.tmp 17) (Operand.tmp 18), type := 0, pos := "ref.go:65", after := #[{ on := 0, ground := Ground.data }, { on := 1, ground := Ground.data }], guard := none }) (v := ?v37x3) rfl (by kernel_rfl) (by kernel_rfl) (by kernel_rfl) (fun _ _ _ h => h) (Or.inl ⟨by rfl, ?y37x3⟩) hn ?r37x3
          case y37x3 => (intro wS hS; (try go_simp); (try with_reducible rfl))
          try simp only [Act.put, List.setIfInBounds_toArray, List.set_cons_zero, List.set_cons_succ]
          refine wpAnyH_take (i := 3) (oi := { dst := some 20, op := Op.load 86 (Operand.tmp 19), type := 86, pos := "ref.go:65", after := #[{ on := 2, ground := Ground.data }], guard := none }) (v := ?v37x4) rfl (by kernel_rfl) (by kernel_rfl) (by kernel_rfl) (fun _ _ _ h => h) (Or.inl ⟨by rfl, ?y37x4⟩) hn ?r37x4
          case y37x4 => (intro wS hS; have c0 := hS.cell q0.out (fun h => h); have c1 := hS.cell q1.out (fun h => h); (try go_simp); (try with_reducible rfl))
          try simp only [Act.put, List.setIfInBounds_toArray, List.set_cons_zero, List.set_cons_succ]
          refine wpAnyH_take (i := 4) (oi := { dst := some 21, op := Op.move (Operand.tmp 1), type := 42, pos := "ref.go:65", after := #[], guard := none }) (v := ?v37x5) rfl (by kernel_rfl) (by kernel_rfl) (by kernel_rfl) (fun _ _ _ h => h) (Or.inl ⟨by rfl, ?y37x5⟩) hn ?r37x5
          case y37x5 => (intro wS hS; (try go_simp); (try with_reducible rfl))
          try simp only [Act.put, List.setIfInBounds_toArray, List.set_cons_zero, List.set_cons_succ]
          refine wpAnyH_take (i := 5) (oi := { dst := some 22, op := Op.move (Operand.tmp 5), type := 3, pos := "ref.go:65", after := #[], guard := none }) (v := ?v37x6) rfl (by kernel_rfl) (by kernel_rfl) (by kernel_rfl) (fun _ _ _ h => h) (Or.inl ⟨by rfl, ?y37x6⟩) hn ?r37x6
          case y37x6 => (intro wS hS; (try go_simp); (try with_reducible rfl))
          try simp only [Act.put, List.setIfInBounds_toArray, List.set_cons_zero, List.set_cons_succ]
          refine wpAnyH_take (i := 6) (oi := { dst := some 23, op := Op.indexAddr 42 (Operand.tmp 21) (Operand.tmp 22), type := 0, pos := "ref.go:65", after := #[{ on := 4, ground := Ground.data }, { on := 5, ground := Ground.data }], guard := none }) (v := ?v37x7) rfl (by kernel_rfl) (by kernel_rfl) (by kernel_rfl) (fun _ _ _ h => h) (Or.inl ⟨by rfl, ?y37x7⟩) hn ?r37x7
          case y37x7 => (intro wS hS; (try go_simp); (try with_reducible rfl))
          try simp only [Act.put, List.setIfInBounds_toArray, List.set_cons_zero, List.set_cons_succ]
          refine wpAnyH_take (i := 7) (oi := { dst := some 24, op := Op.load 86 (Operand.tmp 23), type := 86, pos := "ref.go:65", after := #[{ on := 6, ground := Ground.data }], guard := none }) (v := ?v37x8) rfl (by kernel_rfl) (by kernel_rfl) (by kernel_rfl) (fun _ _ _ h => h) (Or.inl ⟨by rfl, ?y37x8⟩) hn ?r37x8
          case y37x8 => (intro wS hS; have c0 := hS.cell r0.out (fun h => h); have c1 := hS.cell r1.out (fun h => h); (try go_simp); (try with_reducible rfl))
          try simp only [Act.put, List.setIfInBounds_toArray, List.set_cons_zero, List.set_cons_succ]
          refine wpAnyH_take (i := 8) (oi := { dst := some 25, op := Op.binOp BinOp.neq 86 (Operand.tmp 20) (Operand.tmp 24) 86, type := 4, pos := "ref.go:65", after := #[{ on := 3, ground := Ground.data }, { on := 7, ground := Ground.data }], guard := none }) (v := ?v37x9) rfl (by kernel_rfl) (by kernel_rfl) (by kernel_rfl) (fun _ _ _ h => h) (Or.inl ⟨by rfl, ?y37x9⟩) hn ?r37x9
          case y37x9 => (intro wS hS; go_simp; (try go_simp); (try with_reducible rfl))
          try simp only [Act.put, List.setIfInBounds_toArray, List.set_cons_zero, List.set_cons_succ]
          refine wpAnyH_done (by kernel_rfl) ?_ _
          refine NoPanic.normal ?_
          have HH := hid hn
          clear hn
          go_wp2_with fail
          go_roundw
          case rel => exact ⟨i + 1, by go_num, by omega, take_eq_step HI.out HG1.out HG2.out, HH.out⟩
          case measure => (simp [intOf]; omega)
        · by_cases hnm : n = m
          · subst hnm
            have hst : s ≠ t := fun e => hpq ⟨rfl, e⟩
            have hs1 : (s.toList = t.toList) = False := eq_false (tl_ne hst)
            have HP : Pne (n, s) (_, t) := fun e => hpq (Prod.mk.inj e)
            clear hpq hst
            have hn : New w wr.drew := HW.out.drew
            go_wp2_with fail
            refine wp_region_noPanic ?_
            refine wp_region_held_drew (S := (New w)) (by kernel_rfl) (by first | exact hn | exact (Upd.refl _ _).drew | exact Upd.drew (by assumption)) (fun hn => ?_)
            generalize wr.drew = wd at *
            refine wpAnyH_take (i := 0) (oi := { dst := some 17, op := Op.move (Operand.tmp 0), type := 42, pos := "ref.go:65", after := #[], guard := none }) (v := ?v38x1) rfl (by kernel_rfl) (by kernel_rfl) (by kernel_rfl) (fun _ _ _ h => h) (Or.inl ⟨by rfl, ?y38x1⟩) hn ?r38x1
            case y38x1 => (intro wS hS; (try go_simp); (try with_reducible rfl))
            try simp only [Act.put, List.setIfInBounds_toArray, List.set_cons_zero, List.set_cons_succ]
            refine wpAnyH_take (i := 1) (oi := { dst := some 18, op := Op.move (Operand.tmp 5), type := 3, pos := "ref.go:65", after := #[], guard := none }) (v := ?v38x2) rfl (by kernel_rfl) (by kernel_rfl) (by kernel_rfl) (fun _ _ _ h => h) (Or.inl ⟨by rfl, ?y38x2⟩) hn ?r38x2
            case y38x2 => (intro wS hS; (try go_simp); (try with_reducible rfl))
            try simp only [Act.put, List.setIfInBounds_toArray, List.set_cons_zero, List.set_cons_succ]
            refine wpAnyH_take (i := 2) (oi := { dst := some 19, op := Op.indexAddr 42 (Operand.tmp 17) (Operand.tmp 18), type := 0, pos := "ref.go:65", after := #[{ on := 0, ground := Ground.data }, { on := 1, ground := Ground.data }], guard := none }) (v := ?v38x3) rfl (by kernel_rfl) (by kernel_rfl) (by kernel_rfl) (fun _ _ _ h => h) (Or.inl ⟨by rfl, ?y38x3⟩) hn ?r38x3
            case y38x3 => (intro wS hS; (try go_simp); (try with_reducible rfl))
            try simp only [Act.put, List.setIfInBounds_toArray, List.set_cons_zero, List.set_cons_succ]
            refine wpAnyH_take (i := 3) (oi := { dst := some 20, op := Op.load 86 (Operand.tmp 19), type := 86, pos := "ref.go:65", after := #[{ on := 2, ground := Ground.data }], guard := none }) (v := ?v38x4) rfl (by kernel_rfl) (by kernel_rfl) (by kernel_rfl) (fun _ _ _ h => h) (Or.inl ⟨by rfl, ?y38x4⟩) hn ?r38x4
            case y38x4 => (intro wS hS; have c0 := hS.cell q0.out (fun h => h); have c1 := hS.cell q1.out (fun h => h); (try go_simp); (try with_reducible rfl))
            try simp only [Act.put, List.setIfInBounds_toArray, List.set_cons_zero, List.set_cons_succ]
            refine wpAnyH_take (i := 4) (oi := { dst := some 21, op := Op.move (Operand.tmp 1), type := 42, pos := "ref.go:65", after := #[], guard := none }) (v := ?v38x5) rfl (by kernel_rfl) (by kernel_rfl) (by kernel_rfl) (fun _ _ _ h => h) (Or.inl ⟨by rfl, ?y38x5⟩) hn ?r38x5
            case y38x5 => (intro wS hS; (try go_simp); (try with_reducible rfl))
            try simp only [Act.put, List.setIfInBounds_toArray, List.set_cons_zero, List.set_cons_succ]
            refine wpAnyH_take (i := 5) (oi := { dst := some 22, op := Op.move (Operand.tmp 5), type := 3, pos := "ref.go:65", after := #[], guard := none }) (v := ?v38x6) rfl (by kernel_rfl) (by kernel_rfl) (by kernel_rfl) (fun _ _ _ h => h) (Or.inl ⟨by rfl, ?y38x6⟩) hn ?r38x6
            case y38x6 => (intro wS hS; (try go_simp); (try with_reducible rfl))
            try simp only [Act.put, List.setIfInBounds_toArray, List.set_cons_zero, List.set_cons_succ]
            refine wpAnyH_take (i := 6) (oi := { dst := some 23, op := Op.indexAddr 42 (Operand.tmp 21) (Operand.tmp 22), type := 0, pos := "ref.go:65", after := #[{ on := 4, ground := Ground.data }, { on := 5, ground := Ground.data }], guard := none }) (v := ?v38x7) rfl (by kernel_rfl) (by kernel_rfl) (by kernel_rfl) (fun _ _ _ h => h) (Or.inl ⟨by rfl, ?y38x7⟩) hn ?r38x7
            case y38x7 => (intro wS hS; (try go_simp); (try with_reducible rfl))
            try simp only [Act.put, List.setIfInBounds_toArray, List.set_cons_zero, List.set_cons_succ]
            refine wpAnyH_take (i := 7) (oi := { dst := some 24, op := Op.load 86 (Operand.tmp 23), type := 86, pos := "ref.go:65", after := #[{ on := 6, ground := Ground.data }], guard := none }) (v := ?v38x8) rfl (by kernel_rfl) (by kernel_rfl) (by kernel_rfl) (fun _ _ _ h => h) (Or.inl ⟨by rfl, ?y38x8⟩) hn ?r38x8
            case y38x8 => (intro wS hS; have c0 := hS.cell r0.out (fun h => h); have c1 := hS.cell r1.out (fun h => h); (try go_simp); (try with_reducible rfl))
            try simp only [Act.put, List.setIfInBounds_toArray, List.set_cons_zero, List.set_cons_succ]
            refine wpAnyH_take (i := 8) (oi := { dst := some 25, op := Op.binOp BinOp.neq 86 (Operand.tmp 20) (Operand.tmp 24) 86, type := 4, pos := "ref.go:65", after := #[{ on := 3, ground := Ground.data }, { on := 7, ground := Ground.data }], guard := none }) (v := ?v38x9) rfl (by kernel_rfl) (by kernel_rfl) (by kernel_rfl) (fun _ _ _ h => h) (Or.inl ⟨by rfl, ?y38x9⟩) hn ?r38x9
            case y38x9 => (intro wS hS; go_simp; (try go_simp); (try with_reducible rfl))
            try simp only [Act.put, List.setIfInBounds_toArray, List.set_cons_zero, List.set_cons_succ]
            refine wpAnyH_done (by kernel_rfl) ?_ _
            refine NoPanic.normal ?_
            have HH := hid hn
            clear hn
            go_wp2_with fail
            go_ret
            exact ⟨_, rfl, iff_of_false (by decide) (get_ne HG1.out HG2.out HP), HH.out⟩
          · have hs1 : ((n : Int) = (m : Int)) = False := eq_false (by omega)
            have hs2 : (n = m) = False := eq_false hnm
            have HP : Pne (n, s) (m, t) := fun e => hpq (Prod.mk.inj e)
            clear hpq hnm
            have hn : New w wr.drew := HW.out.drew
            go_wp2_with fail
            refine wp_region_noPanic ?_
            refine wp_region_held_drew (S := (New w)) (by kernel_rfl) (by first | exact hn | exact (Upd.refl _ _).drew | exact Upd.drew (by assumption)) (fun hn => ?_)
            generalize wr.drew = wd at *
            refine wpAnyH_take (i := 0) (oi := { dst := some 17, op := Op.move (Operand.tmp 0), type := 42, pos := "ref.go:65", after := #[], guard := none }) (v := ?v39x1) rfl (by kernel_rfl) (by kernel_rfl) (by kernel_rfl) (fun _ _ _ h => h) (Or.inl ⟨by rfl, ?y39x1⟩) hn ?r39x1
            case y39x1 => (intro wS hS; (try go_simp); (try with_reducible rfl))
            try simp only [Act.put, List.setIfInBounds_toArray, List.set_cons_zero, List.set_cons_succ]
            refine wpAnyH_take (i := 1) (oi := { dst := some 18, op := Op.move (Operand.tmp 5), type := 3, pos := "ref.go:65", after := #[], guard := none }) (v := ?v39x2) rfl (by kernel_rfl) (by kernel_rfl) (by kernel_rfl) (fun _ _ _ h => h) (Or.inl ⟨by rfl, ?y39x2⟩) hn ?r39x2
            case y39x2 => (intro wS hS; (try go_simp); (try with_reducible rfl))
            try simp only [Act.put, List.setIfInBounds_toArray, List.set_cons_zero, List.set_cons_succ]
            refine wpAnyH_take (i := 2) (oi := { dst := some 19, op := Op.indexAddr 42 (Operand.tmp 17) (Operand.tmp 18), type := 0, pos := "ref.go:65", after := #[{ on := 0, ground := Ground.data }, { on := 1, ground := Ground.data }], guard := none }) (v := ?v39x3) rfl (by kernel_rfl) (by kernel_rfl) (by kernel_rfl) (fun _ _ _ h => h) (Or.inl ⟨by rfl, ?y39x3⟩) hn ?r39x3
            case y39x3 => (intro wS hS; (try go_simp); (try with_reducible rfl))
            try simp only [Act.put, List.setIfInBounds_toArray, List.set_cons_zero, List.set_cons_succ]
            refine wpAnyH_take (i := 3) (oi := { dst := some 20, op := Op.load 86 (Operand.tmp 19), type := 86, pos := "ref.go:65", after := #[{ on := 2, ground := Ground.data }], guard := none }) (v := ?v39x4) rfl (by kernel_rfl) (by kernel_rfl) (by kernel_rfl) (fun _ _ _ h => h) (Or.inl ⟨by rfl, ?y39x4⟩) hn ?r39x4
            case y39x4 => (intro wS hS; have c0 := hS.cell q0.out (fun h => h); have c1 := hS.cell q1.out (fun h => h); (try go_simp); (try with_reducible rfl))
            try simp only [Act.put, List.setIfInBounds_toArray, List.set_cons_zero, List.set_cons_succ]
            refine wpAnyH_take (i := 4) (oi := { dst := some 21, op := Op.move (Operand.tmp 1), type := 42, pos := "ref.go:65", after := #[], guard := none }) (v := ?v39x5) rfl (by kernel_rfl) (by kernel_rfl) (by kernel_rfl) (fun _ _ _ h => h) (Or.inl ⟨by rfl, ?y39x5⟩) hn ?r39x5
            case y39x5 => (intro wS hS; (try go_simp); (try with_reducible rfl))
            try simp only [Act.put, List.setIfInBounds_toArray, List.set_cons_zero, List.set_cons_succ]
            refine wpAnyH_take (i := 5) (oi := { dst := some 22, op := Op.move (Operand.tmp 5), type := 3, pos := "ref.go:65", after := #[], guard := none }) (v := ?v39x6) rfl (by kernel_rfl) (by kernel_rfl) (by kernel_rfl) (fun _ _ _ h => h) (Or.inl ⟨by rfl, ?y39x6⟩) hn ?r39x6
            case y39x6 => (intro wS hS; (try go_simp); (try with_reducible rfl))
            try simp only [Act.put, List.setIfInBounds_toArray, List.set_cons_zero, List.set_cons_succ]
            refine wpAnyH_take (i := 6) (oi := { dst := some 23, op := Op.indexAddr 42 (Operand.tmp 21) (Operand.tmp 22), type := 0, pos := "ref.go:65", after := #[{ on := 4, ground := Ground.data }, { on := 5, ground := Ground.data }], guard := none }) (v := ?v39x7) rfl (by kernel_rfl) (by kernel_rfl) (by kernel_rfl) (fun _ _ _ h => h) (Or.inl ⟨by rfl, ?y39x7⟩) hn ?r39x7
            case y39x7 => (intro wS hS; (try go_simp); (try with_reducible rfl))
            try simp only [Act.put, List.setIfInBounds_toArray, List.set_cons_zero, List.set_cons_succ]
            refine wpAnyH_take (i := 7) (oi := { dst := some 24, op := Op.load 86 (Operand.tmp 23), type := 86, pos := "ref.go:65", after := #[{ on := 6, ground := Ground.data }], guard := none }) (v := ?v39x8) rfl (by kernel_rfl) (by kernel_rfl) (by kernel_rfl) (fun _ _ _ h => h) (Or.inl ⟨by rfl, ?y39x8⟩) hn ?r39x8
            case y39x8 => (intro wS hS; have c0 := hS.cell r0.out (fun h => h); have c1 := hS.cell r1.out (fun h => h); (try go_simp); (try with_reducible rfl))
            try simp only [Act.put, List.setIfInBounds_toArray, List.set_cons_zero, List.set_cons_succ]
            refine wpAnyH_take (i := 8) (oi := { dst := some 25, op := Op.binOp BinOp.neq 86 (Operand.tmp 20) (Operand.tmp 24) 86, type := 4, pos := "ref.go:65", after := #[{ on := 3, ground := Ground.data }, { on := 7, ground := Ground.data }], guard := none }) (v := ?v39x9) rfl (by kernel_rfl) (by kernel_rfl) (by kernel_rfl) (fun _ _ _ h => h) (Or.inl ⟨by rfl, ?y39x9⟩) hn ?r39x9
            case y39x9 => (intro wS hS; go_simp; (try go_simp); (try with_reducible rfl))
            try simp only [Act.put, List.setIfInBounds_toArray, List.set_cons_zero, List.set_cons_succ]
            refine wpAnyH_done (by kernel_rfl) ?_ _
            refine NoPanic.normal ?_
            have HH := hid hn
            clear hn
            go_wp2_with fail
            go_ret
            exact ⟨_, rfl, iff_of_false (by decide) (get_ne HG1.out HG2.out HP), HH.out⟩
      · have e : i = xs.length := by omega
        subst e
        have HI : Hid (xs = ys) := by
          show xs = ys
          have hl := HL.out
          rw [hl] at hi2
          rw [← hl, List.take_length, hl, List.take_length] at hi2
          exact hi2
        clear hi2
        have HW := hid hnw
        clear hnw
        go_wp2_with fail
        go_ret
        exact ⟨_, rfl, iff_of_true rfl HI.out, HW.out⟩
  · have hb : (((xs.length : Nat) : Int) != ((ys.length : Nat) : Int)) = true := by simp; omega
    have HL := hid hl
    clear hl
    go_enter Try.func62, Try.ntmps62
    go_wp2_with fail
    go_ret
    exact ⟨_, rfl, iff_of_false (by decide) (fun h => HL.out (congrArg List.length h)), Upd.refl _ _⟩
theorem lc_same {B B' : Nat → Prop} (n m : Nat) (u v : Value) (xs ys : List (Nat × ByteArray)) (w : World) (hx : RdE 2 (E2 FN) w B u xs) (hy : RdE 2 (E2 FN) w B' v ys) (h1 : xs.length ≤ 1000000) (h2 : ys.length ≤ 1000000) :
    Calls Try.prog 59 #[.agg #[.int .u32 n, u], .agg #[.int .u32 m, v]] w (SameP ((n, xs) = (m, ys)) w) := by
  have HE := hid (fun w' (hn : New w w') => eqNm60 u v xs ys w' (hx.new (E2.ok FN.ok) hn) (hy.new (E2.ok FN.ok) hn) h1 h2)
  obtain ⟨a, c, rfl⟩ := hx.shape
  obtain ⟨a', c', rfl⟩ := hy.shape
  have HN := hid (fun o o' => ((Upd.refl (fun _ => False) w).alloc o).alloc o')
  clear hx hy
  by_cases h : n = m
  · subst h
    go_enter Try.func59, Try.ntmps59
    go_wp2_with fail
    refine (HE.out _ (HN.out _ _)).mono ?_
    rintro e w2 ⟨b, rfl, hb, hn⟩
    have HB := hid hb
    have HN2 := hid (New.trans (HN.out _ _) hn)
    clear hb hn
    go_wp2_with fail
    go_ret
    exact ⟨_, rfl, by rw [HB.out, Prod.mk.injEq]; simp, HN2.out⟩
  · have hb : (((n : Nat) : Int) == ((m : Nat) : Int)) = false := by simp; omega
    have HH := hid h
    clear h
    go_enter Try.func59, Try.ntmps59
    go_wp2_with fail
    go_ret
    exact ⟨_, rfl, iff_of_false (by decide) (fun e => HH.out (Prod.mk.inj e).1), HN.out _ _⟩
theorem eqLc_any {B B' : Nat → Prop} (x y : Value) (xs ys : List (Nat × List (Nat × ByteArray))) (w : World) (hx : RdE 2 (E2 FL) w B x xs) (hy : RdE 2 (E2 FL) w B' y ys) (h1 : SzL xs) (h2 : SzL ys) :
    Calls Try.prog 61 #[x, y, .func (.func 59) #[] #[]] w (SameP (xs = ys) w) := by
  obtain ⟨a, c, rfl, hcell⟩ := e2_at hx
  obtain ⟨a2, c2, rfl, hcell2⟩ := e2_at hy
  have HX := hid hcell
  have HY := hid hcell2
  have l1 := h1.1
  have l2 := h2.1
  have H1 := hid h1
  have H2 := hid h2
  clear hx hy hcell hcell2 h1 h2
  by_cases hl : xs.length = ys.length
  · have hb : (((xs.length : Nat) : Int) != ((ys.length : Nat) : Int)) = false := by simp [hl]
    have HL := hid hl
    clear hl
    go_enter Try.func61, Try.ntmps61
    go_wp2_with fail
    go_loopw [17] (fun c wr => ∃ i : Nat, c = .int .i64 i ∧ i ≤ xs.length ∧ xs.take i = ys.take i ∧ New w wr) (fun c _ => xs.length - (intOf c).toNat)
    case atStart => exact ⟨0, rfl, by omega, by simp, Upd.refl _ _⟩
    case round =>
      obtain ⟨i, rfl, hi1, hi2, hnw⟩ := hrel
      by_cases hi : i < xs.length
      · have hi' : i < ys.length := by have := HL.out; omega
        obtain ⟨b, o, u, rfl, hc0, hc1, hu⟩ := HX.out i hi
        obtain ⟨b2, o2, v, rfl, hd0, hd1, hv⟩ := HY.out i hi'
        have k0 := hnw.cell hc0 (fun h => h)
        have k1 := hnw.cell hc1 (fun h => h)
        have j0 := hnw.cell hd0 (fun h => h)
        have j1 := hnw.cell hd1 (fun h => h)
        have HC : Hid (∀ w', New wr w' → Calls Try.prog 59 #[.agg #[.int .u32 (xs[i].1 : Nat), u], .agg #[.int .u32 (ys[i].1 : Nat), v]] w' (SameP (xs[i] = ys[i]) w')) := fun w' hn =>
          lc_same xs[i].1 ys[i].1 u v xs[i].2 ys[i].2 w' ((FL.ok.new hu hnw : RdE 2 (E2 FN) _ _ _ _).new (E2.ok FN.ok) hn) ((FL.ok.new hv hnw : RdE 2 (E2 FN) _ _ _ _).new (E2.ok FN.ok) hn) (by have := (H1.out.2 _ (List.getElem_mem hi)).1; omega) (by have := (H2.out.2 _ (List.getElem_mem hi')).1; omega)
        have HG1 : Hid (xs[i]? = some xs[i]) := List.getElem?_eq_getElem hi
        have HG2 : Hid (ys[i]? = some ys[i]) := List.getElem?_eq_getElem hi'
        have HI := hid hi2
        have HW := hid hnw
        have HNA := hid (fun o o' => ((Upd.refl (fun _ => False) wr).alloc o).alloc o')
        obtain ⟨ua, uc, rfl⟩ := (show RdE 2 (E2 FN) w _ u _ from hu).shape
        obtain ⟨va, vc, rfl⟩ := (show RdE 2 (E2 FN) w _ v _ from hv).shape
        clear hc0 hc1 hd0 hd1 hi2 hnw hu hv
        generalize xs[i] = p at *
        generalize ys[i] = q at *
        obtain ⟨n, s⟩ := p
        obtain ⟨m, t⟩ := q
        simp only at k0 k1 j0 j1 HC
        have j0' : ∀ ob, (wr.alloc ob).cell? ⟨b2, o2 + i * 2, none⟩ = some (.int .u32 (m : Nat)) := fun ob => ((Upd.refl (fun _ => False) wr).alloc ob).cell j0 (fun h => h)
        have j1' : ∀ ob, (wr.alloc ob).cell? ⟨b2, o2 + i * 2 + 1, none⟩ = some (.slice va t.length vc) := fun ob => ((Upd.refl (fun _ => False) wr).alloc ob).cell j1 (fun h => h)
        go_wp2_with fail
        refine (HC.out _ (HNA.out _ _)).mono ?_
        rintro e w3 ⟨bb, rfl, hbb, hn3⟩
        have HN3 := hid (New.trans HW.out (New.trans (HNA.out _ _) hn3))
        clear hn3
        cases bb with
        | true =>
          have HP := hid (hbb.1 rfl)
          clear hbb k0 k1 j0 j1 j0' j1'
          go_wp2_with fail
          go_roundw
          case rel => exact ⟨i + 1, by go_num, by omega, take_eq_step HI.out HG1.out (by rw [HG2.out, ← HP.out]), HN3.out⟩
          case measure => simp [intOf]; omega
        | false =>
          have HP : Hid ((n, s) ≠ (m, t)) := fun h => Bool.noConfusion (hbb.2 h)
          clear hbb k0 k1 j0 j1 j0' j1'
          go_wp2_with fail
          go_ret
          refine ⟨_, rfl, iff_of_false (by decide) (get_ne HG1.out HG2.out ?_), HN3.out⟩
          have := HP.out
          simpa using this
      · have e : i = xs.length := by omega
        subst e
        have HI : Hid (xs = ys) := by
          show xs = ys
          have hl := HL.out
          rw [hl] at hi2
          rw [← hl, List.take_length, hl, List.take_length] at hi2
          exact hi2
        clear hi2
        have HW := hid hnw
        clear hnw
        go_wp2_with fail
        go_ret
        exact ⟨_, rfl, iff_of_true rfl HI.out, HW.out⟩
  · have hb : (((xs.length : Nat) : Int) != ((ys.length : Nat) : Int)) = true := by simp; omega
    have HL := hid hl
    clear hl
    go_enter Try.func61, Try.ntmps61
    go_wp2_with fail
    go_ret
    exact ⟨_, rfl, iff_of_false (by decide) (fun h => HL.out (congrArg List.length h)), Upd.refl _ _⟩
theorem nms_ext {N M : Nms} (h1 : N.hm = M.hm) (h2 : N.hf = M.hf) (h3 : N.hl = M.hl) (h4 : N.md = M.md) (h5 : N.fs = M.fs) (h6 : N.ls = M.ls) : N = M := by
  cases N; cases M; simp at h1 h2 h3 h4 h5 h6; simp [h1, h2, h3, h4, h5, h6]
theorem nsSame_any {B1 B2 B3 B4 : Nat → Prop} (N M : Nms) (f l f' l' : Value) (w : World) (h1 : RdE 2 (E2 FN) w B1 f N.fs) (h2 : RdE 2 (E2 FL) w B2 l N.ls) (h3 : RdE 2 (E2 FN) w B3 f' M.fs) (h4 : RdE 2 (E2 FL) w B4 l' M.ls) (hs : Sz N) (hs' : Sz M) :
    Calls Try.prog 19 #[nv N f l, nv M f' l'] w (SameP (N = M) w) := by
  have HE := hid (fun w' (hn : New w w') => eqNm60 f f' N.fs M.fs w' (h1.new (E2.ok FN.ok) hn) (h3.new (E2.ok FN.ok) hn) (by have := hs.2.1.1; omega) (by have := hs'.2.1.1; omega))
  have HF := hid (fun w' (hn : New w w') => eqLc_any l l' N.ls M.ls w' (h2.new (E2.ok FL.ok) hn) (h4.new (E2.ok FL.ok) hn) hs.2.2 hs'.2.2)
  obtain ⟨a1, c1, rfl⟩ := h1.shape
  obtain ⟨a2, c2, rfl⟩ := h2.shape
  obtain ⟨a3, c3, rfl⟩ := h3.shape
  obtain ⟨a4, c4, rfl⟩ := h4.shape
  clear h1 h2 h3 h4 hs hs'
  obtain ⟨hm, hf, hl, md, fs, ls⟩ := N
  obtain ⟨hm', hf', hl', md', fs', ls'⟩ := M
  obtain ⟨w2, hw2⟩ : ∃ w2, (w.alloc (.cells #[.bool hm, .bool hf, .bool hl, .string md, .slice a1 fs.length c1, .slice a2 ls.length c2] 50)).alloc (.cells #[.bool hm', .bool hf', .bool hl', .string md', .slice a3 fs'.length c3, .slice a4 ls'.length c4] 50) = w2 := ⟨_, rfl⟩
  have HN : Hid (New w w2) := by show New _ _; rw [← hw2]; exact ((Upd.refl _ _).alloc _).alloc _
  have HB : Hid (NBox w2 w.heap.size ⟨hm, hf, hl, md, fs, ls⟩ (.slice a1 fs.length c1) (.slice a2 ls.length c2) 50) := by show NBox _ _ _ _ _ _; rw [← hw2]; exact hp_old (by simp) (hp_new rfl)
  have HB' : Hid (NBox w2 (w.heap.size + 1) ⟨hm', hf', hl', md', fs', ls'⟩ (.slice a3 fs'.length c3) (.slice a4 ls'.length c4) 50) := by show NBox _ _ _ _ _ _; rw [← hw2]; exact hp_new (by simp)
  obtain ⟨z0, z1, z2, z3, z4, z5⟩ := HB.out.cs
  obtain ⟨y0, y1, y2, y3, y4, y5⟩ := HB'.out.cs
  unfold nv
  simp only at *
  have HW := hid hw2
  clear hw2
  by_cases hall : hm = hm' ∧ hf = hf' ∧ hl = hl' ∧ md = md'
  · obtain ⟨rfl, rfl, rfl, rfl⟩ := hall
    go_enter Try.func19, Try.ntmps19
    go_upto_region 2 with fail
    rw [HW.out]
    clear HW
    go_wp2_with fail
    refine (HE.out _ HN.out).mono ?_
    rintro e w3 ⟨b, rfl, hb, hn⟩
    have HN3 := hid (New.trans HN.out hn)
    clear z0 z1 z2 z3 z4 z5 y0 y1 y2 y3 y4 y5
    obtain ⟨z0, z1, z2, z3, z4, z5⟩ := NBox.cs (hp1 HB.out hn)
    obtain ⟨y0, y1, y2, y3, y4, y5⟩ := NBox.cs (hp1 HB'.out hn)
    simp only at z0 z1 z2 z3 z4 z5 y0 y1 y2 y3 y4 y5
    cases b with
    | false =>
      have HP := hid (fun h => Bool.noConfusion (hb.2 h) : ¬ fs = fs')
      clear hb hn
      go_wp2_with fail
      go_ret
      exact ⟨_, rfl, iff_of_false (by decide) (fun h => HP.out (congrArg Nms.fs h)), HN3.out⟩
    | true =>
      have HP := hid (hb.1 rfl)
      clear hb hn
      go_wp2_with fail
      refine (HF.out _ HN3.out).mono ?_
      rintro e w4 ⟨b, rfl, hb, hn⟩
      have HN4 := hid (New.trans HN3.out hn)
      have HB4 := hid hb
      clear hb hn
      go_wp2_with fail
      go_ret
      refine ⟨_, rfl, HB4.out.trans ⟨fun h => nms_ext rfl rfl rfl rfl HP.out h, fun h => congrArg Nms.ls h⟩, HN4.out⟩
  · have HP : Hid (¬ (⟨hm, hf, hl, md, fs, ls⟩ : Nms) = ⟨hm', hf', hl', md', fs', ls'⟩) := fun h => hall ⟨congrArg Nms.hm h, congrArg Nms.hf h, congrArg Nms.hl h, congrArg Nms.md h⟩
    clear HE HF HB HB'
    by_cases e1 : hm = hm'
    · by_cases e2 : hf = hf'
      · by_cases e3 : hl = hl'
        · have e4 : md ≠ md' := fun e => hall ⟨e1, e2, e3, e⟩
          have g4 : (md.toList = md'.toList) = False := eq_false (tl_ne e4)
          have g4' : (md.toList == md'.toList) = false := beq_eq_false_iff_ne.2 (tl_ne e4)
          clear e4 hall
          subst e1 e2 e3
          go_enter Try.func19, Try.ntmps19
          go_upto_region 2 with fail
          rw [HW.out]
          clear HW
          go_wp2_with fail
          go_ret
          exact ⟨_, rfl, iff_of_false (by decide) (fun h => HP.out h), HN.out⟩
        · have g : (hl == hl') = false := by simpa using e3
          clear e3 hall
          subst e1 e2
          go_enter Try.func19, Try.ntmps19
          go_upto_region 2 with fail
          rw [HW.out]
          clear HW
          go_wp2_with fail
          go_ret
          exact ⟨_, rfl, iff_of_false (by decide) (fun h => HP.out h), HN.out⟩
      · have g : (hf == hf') = false := by simpa using e2
        clear e2 hall
        subst e1
        go_enter Try.func19, Try.ntmps19
        go_upto_region 2 with fail
        rw [HW.out]
        clear HW
        go_wp2_with fail
        go_ret
        exact ⟨_, rfl, iff_of_false (by decide) (fun h => HP.out h), HN.out⟩
    · have g : (hm == hm') = false := by simpa using e1
      clear e1 hall
      go_enter Try.func19, Try.ntmps19
      go_upto_region 2 with fail
      rw [HW.out]
      clear HW
      go_wp2_with fail
      go_ret
      exact ⟨_, rfl, iff_of_false (by decide) (fun h => HP.out h), HN.out⟩
end Go.Proofs.Ytnngibflnnmioaa
