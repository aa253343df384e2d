/-
  Names: the document's answers: whether they are the same.
-/
import Derived.Test.YtnngibflnnmioaaNmf
namespace Go.Proofs.Ytnngibflnnmioaa
open Go.RowKit Go.Proofs.Leb Go.Proofs.Own
set_option maxRecDepth 100000
set_option maxHeartbeats 4000000

theorem rNsSame_any {B1 B2 B3 B4 : Nat → Prop} (N M : Nms) (f l f' l' : Value) (w : World) (h1 : RdE 2 (E2 FN) w B1 f N.fs) (h2 : RdE 2 (E2 FL) w B2 l N.ls) (h3 : RdE 2 (E2 FN) w B3 f' M.fs) (h4 : RdE 2 (E2 FL) w B4 l' M.ls) (hs : Sz N) (hs' : Sz M) :
    Calls Try.prog 20 #[nv N f l, nv M f' l'] w (SameP (N = M) w) := by
  have HE := hid (fun w' (hn : New w w') => eqNm62 f f' N.fs M.fs w' (h1.new (E2.ok FN.ok) hn) (h3.new (E2.ok FN.ok) hn) (by have := hs.2.1.1; omega) (by have := hs'.2.1.1; omega))
  have HL := hid h2
  have HL' := hid h4
  have HSL := hid hs.2.2
  have HSL' := hid hs'.2.2
  obtain ⟨a1, c1, rfl⟩ := h1.shape
  obtain ⟨a2, c2, rfl⟩ := h2.shape
  obtain ⟨a3, c3, rfl⟩ := h3.shape
  obtain ⟨a4, c4, rfl⟩ := h4.shape
  clear h1 h2 h3 h4 hs hs'
  obtain ⟨hm, hf, hl, md, fs, ls⟩ := N
  obtain ⟨hm', hf', hl', md', fs', ls'⟩ := M
  obtain ⟨w2, hw2⟩ : ∃ w2, (w.alloc (.cells #[.bool hm, .bool hf, .bool hl, .string md, .slice a1 fs.length c1, .slice a2 ls.length c2] 45)).alloc (.cells #[.bool hm', .bool hf', .bool hl', .string md', .slice a3 fs'.length c3, .slice a4 ls'.length c4] 45) = w2 := ⟨_, rfl⟩
  have HN : Hid (New w w2) := by show New _ _; rw [← hw2]; exact ((Upd.refl _ _).alloc _).alloc _
  have HB : Hid (NBox w2 w.heap.size ⟨hm, hf, hl, md, fs, ls⟩ (.slice a1 fs.length c1) (.slice a2 ls.length c2) 45) := by show NBox _ _ _ _ _ _; rw [← hw2]; exact hp_old (by simp) (hp_new rfl)
  have HB' : Hid (NBox w2 (w.heap.size + 1) ⟨hm', hf', hl', md', fs', ls'⟩ (.slice a3 fs'.length c3) (.slice a4 ls'.length c4) 45) := by show NBox _ _ _ _ _ _; rw [← hw2]; exact hp_new (by simp)
  obtain ⟨z0, z1, z2, z3, z4, z5⟩ := HB.out.cs
  obtain ⟨y0, y1, y2, y3, y4, y5⟩ := HB'.out.cs
  unfold nv
  simp only at *
  have HW := hid hw2
  clear hw2
  by_cases hall : hm = hm' ∧ hf = hf' ∧ hl = hl' ∧ md = md'
  · obtain ⟨rfl, rfl, rfl, rfl⟩ := hall
    go_enter Try.func20, Try.ntmps20
    go_upto_region 1 with fail
    rw [HW.out]
    clear HW
    go_wp2_with fail
    refine (HE.out _ HN.out).mono ?_
    rintro e w3 ⟨b, rfl, hb, hn⟩
    have HN3 := hid hn
    clear z0 z1 z2 z3 z4 z5 y0 y1 y2 y3 y4 y5
    obtain ⟨z0, z1, z2, z3, z4, z5⟩ := NBox.cs (hp1 HB.out hn)
    obtain ⟨y0, y1, y2, y3, y4, y5⟩ := NBox.cs (hp1 HB'.out hn)
    simp only at z0 z1 z2 z3 z4 z5 y0 y1 y2 y3 y4 y5
    cases b with
    | false =>
      have HP := hid (fun h => Bool.noConfusion (hb.2 h) : ¬ fs = fs')
      clear hb hn
      go_wp2_with fail
      go_ret
      exact ⟨_, rfl, iff_of_false (by decide) (fun h => HP.out (congrArg Nms.fs h)), New.trans HN.out HN3.out⟩
    | true =>
      have HP := hid (hb.1 rfl)
      clear hb hn
      by_cases hlen : ls.length = ls'.length
      · have hb : (((ls.length : Nat) : Int) != ((ls'.length : Nat) : Int)) = false := by simp [hlen]
        have HLN := hid hlen
        clear hlen
        obtain ⟨_, _, e, hat⟩ := e2_at HL.out
        cases e
        obtain ⟨_, _, e, hat'⟩ := e2_at HL'.out
        cases e
        have HX := hid hat
        have HY := hid hat'
        have hl10 : ls.length ≤ 10000 := HSL.out.1
        clear hat hat'
        go_wp2_with fail
        clear z0 z1 z2 z3 z4 z5 y0 y1 y2 y3 y4 y5
        go_loopw [5] (fun c wr => ∃ i : Nat, c = .int .i64 i ∧ i ≤ ls.length ∧ ls.take i = ls'.take i ∧ New w2 wr) (fun c _ => ls.length - (intOf c).toNat)
        case atStart => exact ⟨0, rfl, by omega, by simp, HN3.out⟩
        case round =>
          obtain ⟨i, rfl, hi1, hi2, hnw⟩ := hrel
          obtain ⟨z0, z1, z2, z3, z4, z5⟩ := NBox.cs (hp1 HB.out hnw)
          simp only at z0 z1 z2 z3 z4 z5
          by_cases hi : i < ls.length
          · have hi' : i < ls'.length := by have := HLN.out; omega
            obtain ⟨b, o, u, rfl, hc0, hc1, hu⟩ := HX.out i hi
            obtain ⟨b2, o2, v, rfl, hd0, hd1, hv⟩ := HY.out i hi'
            have hu : RdE 2 (E2 FN) w B2 u ls[i].2 := hu
            have hv : RdE 2 (E2 FN) w B4 v ls'[i].2 := hv
            obtain ⟨bi, hbi⟩ := boolOf (ls[i].2 = ls'[i].2)
            have HAL : Hid (∀ w', New w w' → Calls Try.prog 62 #[u, v] w' (IsNew bi w')) := fun w' hn =>
              (eqNm62 u v ls[i].2 ls'[i].2 w' (hu.new (E2.ok FN.ok) hn) (hv.new (E2.ok FN.ok) hn) (by have := (HSL.out.2 _ (List.getElem_mem hi)).1; omega) (by have := (HSL'.out.2 _ (List.getElem_mem hi')).1; omega)).mono fun _ _ h => SameP.mk2 hbi h
            have HG1 : Hid (ls[i]? = some ls[i]) := List.getElem?_eq_getElem hi
            have HG2 : Hid (ls'[i]? = some ls'[i]) := List.getElem?_eq_getElem hi'
            have HI := hid hi2
            obtain ⟨ua, uc, rfl⟩ := hu.shape
            obtain ⟨va, vc, rfl⟩ := hv.shape
            have q0 := hid hc0
            have q1 := hid hc1
            have r0 := hid hd0
            have r1 := hid hd1
            have hn : New w2 wr.drew := hnw.drew
            have HBI := hid hbi
            clear hc0 hc1 hd0 hd1 hi2 hnw hu hv hbi
            generalize ls[i] = p at *
            generalize ls'[i] = q at *
            obtain ⟨n, s⟩ := p
            obtain ⟨m, t⟩ := q
            simp only at q0 q1 r0 r1 HAL HBI
            by_cases hnm : n = m
            · subst hnm
              cases bi with
              | true =>
                have HST := hid (HBI.out.1 (by first | rfl | trivial))
                clear HBI
                go_wp2_with fail
                clear z0 z1 z2 z3 z4 z5
                refine wp_region_noPanic ?_
                refine wp_region_held_drew (S := (New w2)) (by kernel_rfl) (by first | exact hn | exact (Upd.refl _ _).drew | exact Upd.drew (by assumption)) (fun hn => ?_)
                generalize wr.drew = wd at *
                refine wpAnyH_take (i := 0) (oi := { dst := some 56, op := Op.fieldAddr 45 (Operand.tmp 2) 5, type := 0, pos := "ref.go:78", after := #[], guard := none }) (v := ?v60x1) rfl (by kernel_rfl) (by kernel_rfl) (by kernel_rfl) (fun _ _ _ h => h) (Or.inl ⟨by rfl, ?y60x1⟩) hn ?r60x1
                case y60x1 => (intro wS hS; (try go_simp); (try with_reducible rfl))
                try simp only [Act.put, List.setIfInBounds_toArray, List.set_cons_zero, List.set_cons_succ]
                refine wpAnyH_take (i := 1) (oi := { dst := some 57, op := Op.load 43 (Operand.tmp 56), type := 43, pos := "ref.go:78", after := #[{ on := 0, ground := Ground.data }], guard := none }) (v := ?v60x2) rfl (by kernel_rfl) (by kernel_rfl) (by kernel_rfl) (fun _ _ _ h => h) (Or.inl ⟨by rfl, ?y60x2⟩) hn ?r60x2
                case y60x2 => (intro wS hS; have c0 := cellAt (hp1 HB.out hS) 5 (v := .slice (some ⟨b, o, none⟩) ls.length c2) rfl; (try go_simp); (try with_reducible rfl))
                try simp only [Act.put, List.setIfInBounds_toArray, List.set_cons_zero, List.set_cons_succ]
                refine wpAnyH_take (i := 2) (oi := { dst := some 58, op := Op.move (Operand.tmp 5), type := 3, pos := "ref.go:78", after := #[], guard := none }) (v := ?v60x3) rfl (by kernel_rfl) (by kernel_rfl) (by kernel_rfl) (fun _ _ _ h => h) (Or.inl ⟨by rfl, ?y60x3⟩) hn ?r60x3
                case y60x3 => (intro wS hS; (try go_simp); (try with_reducible rfl))
                try simp only [Act.put, List.setIfInBounds_toArray, List.set_cons_zero, List.set_cons_succ]
                refine wpAnyH_take (i := 3) (oi := { dst := some 59, op := Op.indexAddr 43 (Operand.tmp 57) (Operand.tmp 58), type := 0, pos := "ref.go:78", after := #[{ on := 1, ground := Ground.data }, { on := 2, ground := Ground.data }], guard := none }) (v := ?v60x4) rfl (by kernel_rfl) (by kernel_rfl) (by kernel_rfl) (fun _ _ _ h => h) (Or.inl ⟨by rfl, ?y60x4⟩) hn ?r60x4
                case y60x4 => (intro wS hS; (try go_simp); (try with_reducible rfl))
                try simp only [Act.put, List.setIfInBounds_toArray, List.set_cons_zero, List.set_cons_succ]
                refine wpAnyH_take (i := 4) (oi := { dst := some 60, op := Op.fieldAddr 88 (Operand.tmp 59) 0, type := 0, pos := "ref.go:78", after := #[{ on := 3, ground := Ground.data }], guard := none }) (v := ?v60x5) rfl (by kernel_rfl) (by kernel_rfl) (by kernel_rfl) (fun _ _ _ h => h) (Or.inl ⟨by rfl, ?y60x5⟩) hn ?r60x5
                case y60x5 => (intro wS hS; (try go_simp); (try with_reducible rfl))
                try simp only [Act.put, List.setIfInBounds_toArray, List.set_cons_zero, List.set_cons_succ]
                refine wpAnyH_take (i := 5) (oi := { dst := some 61, op := Op.load 22 (Operand.tmp 60), type := 22, pos := "ref.go:78", after := #[{ on := 4, ground := Ground.data }], guard := none }) (v := ?v60x6) rfl (by kernel_rfl) (by kernel_rfl) (by kernel_rfl) (fun _ _ _ h => h) (Or.inl ⟨by rfl, ?y60x6⟩) hn ?r60x6
                case y60x6 => (intro wS hS; have c1 := (New.trans HN.out hS).cell q0.out (fun h => h); (try go_simp); (try with_reducible rfl))
                try simp only [Act.put, List.setIfInBounds_toArray, List.set_cons_zero, List.set_cons_succ]
                refine wpAnyH_take (i := 6) (oi := { dst := some 62, op := Op.fieldAddr 45 (Operand.tmp 3) 5, type := 0, pos := "ref.go:78", after := #[], guard := none }) (v := ?v60x7) rfl (by kernel_rfl) (by kernel_rfl) (by kernel_rfl) (fun _ _ _ h => h) (Or.inl ⟨by rfl, ?y60x7⟩) hn ?r60x7
                case y60x7 => (intro wS hS; (try go_simp); (try with_reducible rfl))
                try simp only [Act.put, List.setIfInBounds_toArray, List.set_cons_zero, List.set_cons_succ]
                refine wpAnyH_take (i := 7) (oi := { dst := some 63, op := Op.load 43 (Operand.tmp 62), type := 43, pos := "ref.go:78", after := #[{ on := 6, ground := Ground.data }], guard := none }) (v := ?v60x8) rfl (by kernel_rfl) (by kernel_rfl) (by kernel_rfl) (fun _ _ _ h => h) (Or.inl ⟨by rfl, ?y60x8⟩) hn ?r60x8
                case y60x8 => (intro wS hS; have c0 := cellAt (hp1 HB'.out hS) 5 (v := .slice (some ⟨b2, o2, none⟩) ls'.length c4) rfl; (try go_simp); (try with_reducible rfl))
                try simp only [Act.put, List.setIfInBounds_toArray, List.set_cons_zero, List.set_cons_succ]
                refine wpAnyH_take (i := 8) (oi := { dst := some 64, op := Op.move (Operand.tmp 5), type := 3, pos := "ref.go:78", after := #[], guard := none }) (v := ?v60x9) rfl (by kernel_rfl) (by kernel_rfl) (by kernel_rfl) (fun _ _ _ h => h) (Or.inl ⟨by rfl, ?y60x9⟩) hn ?r60x9
                case y60x9 => (intro wS hS; (try go_simp); (try with_reducible rfl))
                try simp only [Act.put, List.setIfInBounds_toArray, List.set_cons_zero, List.set_cons_succ]
                refine wpAnyH_take (i := 9) (oi := { dst := some 65, op := Op.indexAddr 43 (Operand.tmp 63) (Operand.tmp 64), type := 0, pos := "ref.go:78", after := #[{ on := 7, ground := Ground.data }, { on := 8, ground := Ground.data }], guard := none }) (v := ?v60x10) rfl (by kernel_rfl) (by kernel_rfl) (by kernel_rfl) (fun _ _ _ h => h) (Or.inl ⟨by rfl, ?y60x10⟩) hn ?r60x10
                case y60x10 => (intro wS hS; (try go_simp); (try with_reducible rfl))
                try simp only [Act.put, List.setIfInBounds_toArray, List.set_cons_zero, List.set_cons_succ]
                refine wpAnyH_take (i := 10) (oi := { dst := some 66, op := Op.fieldAddr 88 (Operand.tmp 65) 0, type := 0, pos := "ref.go:78", after := #[{ on := 9, ground := Ground.data }], guard := none }) (v := ?v60x11) rfl (by kernel_rfl) (by kernel_rfl) (by kernel_rfl) (fun _ _ _ h => h) (Or.inl ⟨by rfl, ?y60x11⟩) hn ?r60x11
                case y60x11 => (intro wS hS; (try go_simp); (try with_reducible rfl))
                try simp only [Act.put, List.setIfInBounds_toArray, List.set_cons_zero, List.set_cons_succ]
                refine wpAnyH_take (i := 11) (oi := { dst := some 67, op := Op.load 22 (Operand.tmp 66), type := 22, pos := "ref.go:78", after := #[{ on := 10, ground := Ground.data }], guard := none }) (v := ?v60x12) rfl (by kernel_rfl) (by kernel_rfl) (by kernel_rfl) (fun _ _ _ h => h) (Or.inl ⟨by rfl, ?y60x12⟩) hn ?r60x12
                case y60x12 => (intro wS hS; have c1 := (New.trans HN.out hS).cell r0.out (fun h => h); (try go_simp); (try with_reducible rfl))
                try simp only [Act.put, List.setIfInBounds_toArray, List.set_cons_zero, List.set_cons_succ]
                refine wpAnyH_take (i := 12) (oi := { dst := some 68, op := Op.binOp BinOp.neq 22 (Operand.tmp 61) (Operand.tmp 67) 22, type := 4, pos := "ref.go:78", after := #[{ on := 5, ground := Ground.data }, { on := 11, ground := Ground.data }], guard := none }) (v := ?v60x13) rfl (by kernel_rfl) (by kernel_rfl) (by kernel_rfl) (fun _ _ _ h => h) (Or.inl ⟨by rfl, ?y60x13⟩) hn ?r60x13
                case y60x13 => (intro wS hS; (try go_simp); (try with_reducible rfl))
                try simp only [Act.put, List.setIfInBounds_toArray, List.set_cons_zero, List.set_cons_succ]
                refine wpAnyH_take (i := 13) (oi := { dst := some 69, op := Op.move (Operand.tmp 68), type := 4, pos := "ref.go:78", after := #[{ on := 12, ground := Ground.data }], guard := none }) (v := ?v60x14) rfl (by kernel_rfl) (by kernel_rfl) (by kernel_rfl) (fun _ _ _ h => h) (Or.inl ⟨by rfl, ?y60x14⟩) hn ?r60x14
                case y60x14 => (intro wS hS; (try go_simp); (try with_reducible rfl))
                try simp only [Act.put, List.setIfInBounds_toArray, List.set_cons_zero, List.set_cons_succ]
                refine wpAnyH_take (i := 14) (oi := { dst := some 70, op := Op.fieldAddr 45 (Operand.tmp 2) 5, type := 0, pos := "ref.go:78", after := #[{ on := 13, ground := Ground.guard }], guard := some (13, false) }) (v := ?v60x15) rfl (by kernel_rfl) (by kernel_rfl) (by kernel_rfl) (fun _ _ _ h => h) (Or.inl ⟨by rfl, ?y60x15⟩) hn ?r60x15
                case y60x15 => (intro wS hS; (try go_simp); (try with_reducible rfl))
                try simp only [Act.put, List.setIfInBounds_toArray, List.set_cons_zero, List.set_cons_succ]
                refine wpAnyH_take (i := 15) (oi := { dst := some 71, op := Op.load 43 (Operand.tmp 70), type := 43, pos := "ref.go:78", after := #[{ on := 14, ground := Ground.data }, { on := 13, ground := Ground.guard }], guard := some (13, false) }) (v := ?v60x16) rfl (by kernel_rfl) (by kernel_rfl) (by kernel_rfl) (fun _ _ _ h => h) (Or.inl ⟨by rfl, ?y60x16⟩) hn ?r60x16
                case y60x16 => (intro wS hS; have c0 := cellAt (hp1 HB.out hS) 5 (v := .slice (some ⟨b, o, none⟩) ls.length c2) rfl; (try go_simp); (try with_reducible rfl))
                try simp only [Act.put, List.setIfInBounds_toArray, List.set_cons_zero, List.set_cons_succ]
                refine wpAnyH_take (i := 16) (oi := { dst := some 72, op := Op.move (Operand.tmp 5), type := 3, pos := "ref.go:78", after := #[{ on := 13, ground := Ground.guard }], guard := some (13, false) }) (v := ?v60x17) rfl (by kernel_rfl) (by kernel_rfl) (by kernel_rfl) (fun _ _ _ h => h) (Or.inl ⟨by rfl, ?y60x17⟩) hn ?r60x17
                case y60x17 => (intro wS hS; (try go_simp); (try with_reducible rfl))
                try simp only [Act.put, List.setIfInBounds_toArray, List.set_cons_zero, List.set_cons_succ]
                refine wpAnyH_take (i := 17) (oi := { dst := some 73, op := Op.indexAddr 43 (Operand.tmp 71) (Operand.tmp 72), type := 0, pos := "ref.go:78", after := #[{ on := 15, ground := Ground.data }, { on := 16, ground := Ground.data }, { on := 13, ground := Ground.guard }], guard := some (13, false) }) (v := ?v60x18) rfl (by kernel_rfl) (by kernel_rfl) (by kernel_rfl) (fun _ _ _ h => h) (Or.inl ⟨by rfl, ?y60x18⟩) hn ?r60x18
                case y60x18 => (intro wS hS; (try go_simp); (try with_reducible rfl))
                try simp only [Act.put, List.setIfInBounds_toArray, List.set_cons_zero, List.set_cons_succ]
                refine wpAnyH_take (i := 18) (oi := { dst := some 74, op := Op.fieldAddr 88 (Operand.tmp 73) 1, type := 0, pos := "ref.go:78", after := #[{ on := 17, ground := Ground.data }, { on := 13, ground := Ground.guard }], guard := some (13, false) }) (v := ?v60x19) rfl (by kernel_rfl) (by kernel_rfl) (by kernel_rfl) (fun _ _ _ h => h) (Or.inl ⟨by rfl, ?y60x19⟩) hn ?r60x19
                case y60x19 => (intro wS hS; (try go_simp); (try with_reducible rfl))
                try simp only [Act.put, List.setIfInBounds_toArray, List.set_cons_zero, List.set_cons_succ]
                refine wpAnyH_take (i := 19) (oi := { dst := some 75, op := Op.load 42 (Operand.tmp 74), type := 42, pos := "ref.go:78", after := #[{ on := 18, ground := Ground.data }, { on := 13, ground := Ground.guard }], guard := some (13, false) }) (v := ?v60x20) rfl (by kernel_rfl) (by kernel_rfl) (by kernel_rfl) (fun _ _ _ h => h) (Or.inl ⟨by rfl, ?y60x20⟩) hn ?r60x20
                case y60x20 => (intro wS hS; have c1 := (New.trans HN.out hS).cell q1.out (fun h => h); (try go_simp); (try with_reducible rfl))
                try simp only [Act.put, List.setIfInBounds_toArray, List.set_cons_zero, List.set_cons_succ]
                refine wpAnyH_take (i := 20) (oi := { dst := some 76, op := Op.fieldAddr 45 (Operand.tmp 3) 5, type := 0, pos := "ref.go:78", after := #[{ on := 13, ground := Ground.guard }], guard := some (13, false) }) (v := ?v60x21) rfl (by kernel_rfl) (by kernel_rfl) (by kernel_rfl) (fun _ _ _ h => h) (Or.inl ⟨by rfl, ?y60x21⟩) hn ?r60x21
                case y60x21 => (intro wS hS; (try go_simp); (try with_reducible rfl))
                try simp only [Act.put, List.setIfInBounds_toArray, List.set_cons_zero, List.set_cons_succ]
                refine wpAnyH_take (i := 21) (oi := { dst := some 77, op := Op.load 43 (Operand.tmp 76), type := 43, pos := "ref.go:78", after := #[{ on := 20, ground := Ground.data }, { on := 13, ground := Ground.guard }], guard := some (13, false) }) (v := ?v60x22) rfl (by kernel_rfl) (by kernel_rfl) (by kernel_rfl) (fun _ _ _ h => h) (Or.inl ⟨by rfl, ?y60x22⟩) hn ?r60x22
                case y60x22 => (intro wS hS; have c0 := cellAt (hp1 HB'.out hS) 5 (v := .slice (some ⟨b2, o2, none⟩) ls'.length c4) rfl; (try go_simp); (try with_reducible rfl))
                try simp only [Act.put, List.setIfInBounds_toArray, List.set_cons_zero, List.set_cons_succ]
                refine wpAnyH_take (i := 22) (oi := { dst := some 78, op := Op.move (Operand.tmp 5), type := 3, pos := "ref.go:78", after := #[{ on := 13, ground := Ground.guard }], guard := some (13, false) }) (v := ?v60x23) rfl (by kernel_rfl) (by kernel_rfl) (by kernel_rfl) (fun _ _ _ h => h) (Or.inl ⟨by rfl, ?y60x23⟩) hn ?r60x23
                case y60x23 => (intro wS hS; (try go_simp); (try with_reducible rfl))
                try simp only [Act.put, List.setIfInBounds_toArray, List.set_cons_zero, List.set_cons_succ]
                refine wpAnyH_take (i := 23) (oi := { dst := some 79, op := Op.indexAddr 43 (Operand.tmp 77) (Operand.tmp 78), type := 0, pos := "ref.go:78", after := #[{ on := 21, ground := Ground.data }, { on := 22, ground := Ground.data }, { on := 13, ground := Ground.guard }], guard := some (13, false) }) (v := ?v60x24) rfl (by kernel_rfl) (by kernel_rfl) (by kernel_rfl) (fun _ _ _ h => h) (Or.inl ⟨by rfl, ?y60x24⟩) hn ?r60x24
                case y60x24 => (intro wS hS; (try go_simp); (try with_reducible rfl))
                try simp only [Act.put, List.setIfInBounds_toArray, List.set_cons_zero, List.set_cons_succ]
                refine wpAnyH_take (i := 24) (oi := { dst := some 80, op := Op.fieldAddr 88 (Operand.tmp 79) 1, type := 0, pos := "ref.go:78", after := #[{ on := 23, ground := Ground.data }, { on := 13, ground := Ground.guard }], guard := some (13, false) }) (v := ?v60x25) rfl (by kernel_rfl) (by kernel_rfl) (by kernel_rfl) (fun _ _ _ h => h) (Or.inl ⟨by rfl, ?y60x25⟩) hn ?r60x25
                case y60x25 => (intro wS hS; (try go_simp); (try with_reducible rfl))
                try simp only [Act.put, List.setIfInBounds_toArray, List.set_cons_zero, List.set_cons_succ]
                refine wpAnyH_take (i := 25) (oi := { dst := some 81, op := Op.load 42 (Operand.tmp 80), type := 42, pos := "ref.go:78", after := #[{ on := 24, ground := Ground.data }, { on := 13, ground := Ground.guard }], guard := some (13, false) }) (v := ?v60x26) rfl (by kernel_rfl) (by kernel_rfl) (by kernel_rfl) (fun _ _ _ h => h) (Or.inl ⟨by rfl, ?y60x26⟩) hn ?r60x26
                case y60x26 => (intro wS hS; have c1 := (New.trans HN.out hS).cell r1.out (fun h => h); (try go_simp); (try with_reducible rfl))
                try simp only [Act.put, List.setIfInBounds_toArray, List.set_cons_zero, List.set_cons_succ]
                refine wpAnyH_ready (rs := [26]) (by kernel_rfl) (by simp) ?_
                refine AllReadyH.cons (o := { dst := some 82, op := Op.call { callee := Callee.value (Operand.func 62), args := #[Operand.tmp 75, Operand.tmp 81], argTypes := #[42, 42] }, type := 4, pos := "ref.go:78", after := #[{ on := 19, ground := Ground.data }, { on := 25, ground := Ground.data }, { on := 13, ground := Ground.chain }, { on := 13, ground := Ground.guard }], guard := some (13, false) }) rfl (fun K hK => ?_) AllReadyH.nil
                go_simp
                refine (HAL.out _ (New.trans HN.out hn)).mono ?_
                rintro e wq ⟨rfl, hnq⟩
                go_wp2_with fail
                have hn := New.trans hn hnq
                refine hK.out _ _ (by first | exact hn | exact Upd.alloc hn _) (fun hn => ?_)
                clear hK K
                try simp only [Act.put, List.setIfInBounds_toArray, List.set_cons_zero, List.set_cons_succ]
                refine wpAnyH_take (i := 27) (oi := { dst := some 83, op := Op.unOp UnOp.not 4 (Operand.tmp 82), type := 4, pos := "ref.go:78", after := #[{ on := 26, ground := Ground.data }, { on := 13, ground := Ground.guard }], guard := some (13, false) }) (v := ?v60x27) rfl (by kernel_rfl) (by kernel_rfl) (by kernel_rfl) (fun _ _ _ h => h) (Or.inl ⟨by rfl, ?y60x27⟩) hn ?r60x27
                case y60x27 => (intro wS hS; (try go_simp); (try with_reducible rfl))
                try simp only [Act.put, List.setIfInBounds_toArray, List.set_cons_zero, List.set_cons_succ]
                refine wpAnyH_take (i := 28) (oi := { dst := some 84, op := Op.pick (Operand.tmp 69) (Operand.const (Value.bool true)) (Operand.tmp 83), type := 4, pos := "ref.go:78", after := #[{ on := 13, ground := Ground.data }, { on := 27, ground := Ground.data }], guard := none }) (v := ?v60x28) rfl (by kernel_rfl) (by kernel_rfl) (by kernel_rfl) (fun _ _ _ h => h) (Or.inl ⟨by rfl, ?y60x28⟩) hn ?r60x28
                case y60x28 => (intro wS hS; (try go_simp); (try with_reducible rfl))
                try simp only [Act.put, List.setIfInBounds_toArray, List.set_cons_zero, List.set_cons_succ]
                refine wpAnyH_done (by kernel_rfl) ?_ _
                refine NoPanic.normal ?_
                have HH := hid hn
                clear hn
                go_wp2_with fail
                go_roundw
                case rel => exact ⟨i + 1, by go_num, by omega, take_eq_step HI.out HG1.out (by rw [HG2.out, HST.out]), HH.out⟩
                case measure => (simp [intOf]; omega)
              | false =>
                have HST := hid (fun h => Bool.noConfusion (HBI.out.2 h) : ¬ s = t)
                clear HBI
                have HLS : Hid (¬ ls = ls') := get_ne HG1.out HG2.out (fun e => HST.out (Prod.mk.inj e).2)
                go_wp2_with fail
                clear z0 z1 z2 z3 z4 z5
                refine wp_region_noPanic ?_
                refine wp_region_held_drew (S := (New w2)) (by kernel_rfl) (by first | exact hn | exact (Upd.refl _ _).drew | exact Upd.drew (by assumption)) (fun hn => ?_)
                generalize wr.drew = wd at *
                refine wpAnyH_take (i := 0) (oi := { dst := some 56, op := Op.fieldAddr 45 (Operand.tmp 2) 5, type := 0, pos := "ref.go:78", after := #[], guard := none }) (v := ?v61x1) rfl (by kernel_rfl) (by kernel_rfl) (by kernel_rfl) (fun _ _ _ h => h) (Or.inl ⟨by rfl, ?y61x1⟩) hn ?r61x1
                case y61x1 => (intro wS hS; (try go_simp); (try with_reducible rfl))
                try simp only [Act.put, List.setIfInBounds_toArray, List.set_cons_zero, List.set_cons_succ]
                refine wpAnyH_take (i := 1) (oi := { dst := some 57, op := Op.load 43 (Operand.tmp 56), type := 43, pos := "ref.go:78", after := #[{ on := 0, ground := Ground.data }], guard := none }) (v := ?v61x2) rfl (by kernel_rfl) (by kernel_rfl) (by kernel_rfl) (fun _ _ _ h => h) (Or.inl ⟨by rfl, ?y61x2⟩) hn ?r61x2
                case y61x2 => (intro wS hS; have c0 := cellAt (hp1 HB.out hS) 5 (v := .slice (some ⟨b, o, none⟩) ls.length c2) rfl; (try go_simp); (try with_reducible rfl))
                try simp only [Act.put, List.setIfInBounds_toArray, List.set_cons_zero, List.set_cons_succ]
                refine wpAnyH_take (i := 2) (oi := { dst := some 58, op := Op.move (Operand.tmp 5), type := 3, pos := "ref.go:78", after := #[], guard := none }) (v := ?v61x3) rfl (by kernel_rfl) (by kernel_rfl) (by kernel_rfl) (fun _ _ _ h => h) (Or.inl ⟨by rfl, ?y61x3⟩) hn ?r61x3
                case y61x3 => (intro wS hS; (try go_simp); (try with_reducible rfl))
                try simp only [Act.put, List.setIfInBounds_toArray, List.set_cons_zero, List.set_cons_succ]
                refine wpAnyH_take (i := 3) (oi := { dst := some 59, op := Op.indexAddr 43 (Operand.tmp 57) (Operand.tmp 58), type := 0, pos := "ref.go:78", after := #[{ on := 1, ground := Ground.data }, { on := 2, ground := Ground.data }], guard := none }) (v := ?v61x4) rfl (by kernel_rfl) (by kernel_rfl) (by kernel_rfl) (fun _ _ _ h => h) (Or.inl ⟨by rfl, ?y61x4⟩) hn ?r61x4
                case y61x4 => (intro wS hS; (try go_simp); (try with_reducible rfl))
                try simp only [Act.put, List.setIfInBounds_toArray, List.set_cons_zero, List.set_cons_succ]
                refine wpAnyH_take (i := 4) (oi := { dst := some 60, op := Op.fieldAddr 88 (Operand.tmp 59) 0, type := 0, pos := "ref.go:78", after := #[{ on := 3, ground := Ground.data }], guard := none }) (v := ?v61x5) rfl (by kernel_rfl) (by kernel_rfl) (by kernel_rfl) (fun _ _ _ h => h) (Or.inl ⟨by rfl, ?y61x5⟩) hn ?r61x5
                case y61x5 => (intro wS hS; (try go_simp); (try with_reducible rfl))
                try simp only [Act.put, List.setIfInBounds_toArray, List.set_cons_zero, List.set_cons_succ]
                refine wpAnyH_take (i := 5) (oi := { dst := some 61, op := Op.load 22 (Operand.tmp 60), type := 22, pos := "ref.go:78", after := #[{ on := 4, ground := Ground.data }], guard := none }) (v := ?v61x6) rfl (by kernel_rfl) (by kernel_rfl) (by kernel_rfl) (fun _ _ _ h => h) (Or.inl ⟨by rfl, ?y61x6⟩) hn ?r61x6
                case y61x6 => (intro wS hS; have c1 := (New.trans HN.out hS).cell q0.out (fun h => h); (try go_simp); (try with_reducible rfl))
                try simp only [Act.put, List.setIfInBounds_toArray, List.set_cons_zero, List.set_cons_succ]
                refine wpAnyH_take (i := 6) (oi := { dst := some 62, op := Op.fieldAddr 45 (Operand.tmp 3) 5, type := 0, pos := "ref.go:78", after := #[], guard := none }) (v := ?v61x7) rfl (by kernel_rfl) (by kernel_rfl) (by kernel_rfl) (fun _ _ _ h => h) (Or.inl ⟨by rfl, ?y61x7⟩) hn ?r61x7
                case y61x7 => (intro wS hS; (try go_simp); (try with_reducible rfl))
                try simp only [Act.put, List.setIfInBounds_toArray, List.set_cons_zero, List.set_cons_succ]
                refine wpAnyH_take (i := 7) (oi := { dst := some 63, op := Op.load 43 (Operand.tmp 62), type := 43, pos := "ref.go:78", after := #[{ on := 6, ground := Ground.data }], guard := none }) (v := ?v61x8) rfl (by kernel_rfl) (by kernel_rfl) (by kernel_rfl) (fun _ _ _ h => h) (Or.inl ⟨by rfl, ?y61x8⟩) hn ?r61x8
                case y61x8 => (intro wS hS; have c0 := cellAt (hp1 HB'.out hS) 5 (v := .slice (some ⟨b2, o2, none⟩) ls'.length c4) rfl; (try go_simp); (try with_reducible rfl))
                try simp only [Act.put, List.setIfInBounds_toArray, List.set_cons_zero, List.set_cons_succ]
                refine wpAnyH_take (i := 8) (oi := { dst := some 64, op := Op.move (Operand.tmp 5), type := 3, pos := "ref.go:78", after := #[], guard := none }) (v := ?v61x9) rfl (by kernel_rfl) (by kernel_rfl) (by kernel_rfl) (fun _ _ _ h => h) (Or.inl ⟨by rfl, ?y61x9⟩) hn ?r61x9
                case y61x9 => (intro wS hS; (try go_simp); (try with_reducible rfl))
                try simp only [Act.put, List.setIfInBounds_toArray, List.set_cons_zero, List.set_cons_succ]
                refine wpAnyH_take (i := 9) (oi := { dst := some 65, op := Op.indexAddr 43 (Operand.tmp 63) (Operand.tmp 64), type := 0, pos := "ref.go:78", after := #[{ on := 7, ground := Ground.data }, { on := 8, ground := Ground.data }], guard := none }) (v := ?v61x10) rfl (by kernel_rfl) (by kernel_rfl) (by kernel_rfl) (fun _ _ _ h => h) (Or.inl ⟨by rfl, ?y61x10⟩) hn ?r61x10
                case y61x10 => (intro wS hS; (try go_simp); (try with_reducible rfl))
                try simp only [Act.put, List.setIfInBounds_toArray, List.set_cons_zero, List.set_cons_succ]
                refine wpAnyH_take (i := 10) (oi := { dst := some 66, op := Op.fieldAddr 88 (Operand.tmp 65) 0, type := 0, pos := "ref.go:78", after := #[{ on := 9, ground := Ground.data }], guard := none }) (v := ?v61x11) rfl (by kernel_rfl) (by kernel_rfl) (by kernel_rfl) (fun _ _ _ h => h) (Or.inl ⟨by rfl, ?y61x11⟩) hn ?r61x11
                case y61x11 => (intro wS hS; (try go_simp); (try with_reducible rfl))
                try simp only [Act.put, List.setIfInBounds_toArray, List.set_cons_zero, List.set_cons_succ]
                refine wpAnyH_take (i := 11) (oi := { dst := some 67, op := Op.load 22 (Operand.tmp 66), type := 22, pos := "ref.go:78", after := #[{ on := 10, ground := Ground.data }], guard := none }) (v := ?v61x12) rfl (by kernel_rfl) (by kernel_rfl) (by kernel_rfl) (fun _ _ _ h => h) (Or.inl ⟨by rfl, ?y61x12⟩) hn ?r61x12
                case y61x12 => (intro wS hS; have c1 := (New.trans HN.out hS).cell r0.out (fun h => h); (try go_simp); (try with_reducible rfl))
                try simp only [Act.put, List.setIfInBounds_toArray, List.set_cons_zero, List.set_cons_succ]
                refine wpAnyH_take (i := 12) (oi := { dst := some 68, op := Op.binOp BinOp.neq 22 (Operand.tmp 61) (Operand.tmp 67) 22, type := 4, pos := "ref.go:78", after := #[{ on := 5, ground := Ground.data }, { on := 11, ground := Ground.data }], guard := none }) (v := ?v61x13) rfl (by kernel_rfl) (by kernel_rfl) (by kernel_rfl) (fun _ _ _ h => h) (Or.inl ⟨by rfl, ?y61x13⟩) hn ?r61x13
                case y61x13 => (intro wS hS; (try go_simp); (try with_reducible rfl))
                try simp only [Act.put, List.setIfInBounds_toArray, List.set_cons_zero, List.set_cons_succ]
                refine wpAnyH_take (i := 13) (oi := { dst := some 69, op := Op.move (Operand.tmp 68), type := 4, pos := "ref.go:78", after := #[{ on := 12, ground := Ground.data }], guard := none }) (v := ?v61x14) rfl (by kernel_rfl) (by kernel_rfl) (by kernel_rfl) (fun _ _ _ h => h) (Or.inl ⟨by rfl, ?y61x14⟩) hn ?r61x14
                case y61x14 => (intro wS hS; (try go_simp); (try with_reducible rfl))
                try simp only [Act.put, List.setIfInBounds_toArray, List.set_cons_zero, List.set_cons_succ]
                refine wpAnyH_take (i := 14) (oi := { dst := some 70, op := Op.fieldAddr 45 (Operand.tmp 2) 5, type := 0, pos := "ref.go:78", after := #[{ on := 13, ground := Ground.guard }], guard := some (13, false) }) (v := ?v61x15) rfl (by kernel_rfl) (by kernel_rfl) (by kernel_rfl) (fun _ _ _ h => h) (Or.inl ⟨by rfl, ?y61x15⟩) hn ?r61x15
                case y61x15 => (intro wS hS; (try go_simp); (try with_reducible rfl))
                try simp only [Act.put, List.setIfInBounds_toArray, List.set_cons_zero, List.set_cons_succ]
                refine wpAnyH_take (i := 15) (oi := { dst := some 71, op := Op.load 43 (Operand.tmp 70), type := 43, pos := "ref.go:78", after := #[{ on := 14, ground := Ground.data }, { on := 13, ground := Ground.guard }], guard := some (13, false) }) (v := ?v61x16) rfl (by kernel_rfl) (by kernel_rfl) (by kernel_rfl) (fun _ _ _ h => h) (Or.inl ⟨by rfl, ?y61x16⟩) hn ?r61x16
                case y61x16 => (intro wS hS; have c0 := cellAt (hp1 HB.out hS) 5 (v := .slice (some ⟨b, o, none⟩) ls.length c2) rfl; (try go_simp); (try with_reducible rfl))
                try simp only [Act.put, List.setIfInBounds_toArray, List.set_cons_zero, List.set_cons_succ]
                refine wpAnyH_take (i := 16) (oi := { dst := some 72, op := Op.move (Operand.tmp 5), type := 3, pos := "ref.go:78", after := #[{ on := 13, ground := Ground.guard }], guard := some (13, false) }) (v := ?v61x17) rfl (by kernel_rfl) (by kernel_rfl) (by kernel_rfl) (fun _ _ _ h => h) (Or.inl ⟨by rfl, ?y61x17⟩) hn ?r61x17
                case y61x17 => (intro wS hS; (try go_simp); (try with_reducible rfl))
                try simp only [Act.put, List.setIfInBounds_toArray, List.set_cons_zero, List.set_cons_succ]
                refine wpAnyH_take (i := 17) (oi := { dst := some 73, op := Op.indexAddr 43 (Operand.tmp 71) (Operand.tmp 72), type := 0, pos := "ref.go:78", after := #[{ on := 15, ground := Ground.data }, { on := 16, ground := Ground.data }, { on := 13, ground := Ground.guard }], guard := some (13, false) }) (v := ?v61x18) rfl (by kernel_rfl) (by kernel_rfl) (by kernel_rfl) (fun _ _ _ h => h) (Or.inl ⟨by rfl, ?y61x18⟩) hn ?r61x18
                case y61x18 => (intro wS hS; (try go_simp); (try with_reducible rfl))
                try simp only [Act.put, List.setIfInBounds_toArray, List.set_cons_zero, List.set_cons_succ]
                refine wpAnyH_take (i := 18) (oi := { dst := some 74, op := Op.fieldAddr 88 (Operand.tmp 73) 1, type := 0, pos := "ref.go:78", after := #[{ on := 17, ground := Ground.data }, { on := 13, ground := Ground.guard }], guard := some (13, false) }) (v := ?v61x19) rfl (by kernel_rfl) (by kernel_rfl) (by kernel_rfl) (fun _ _ _ h => h) (Or.inl ⟨by rfl, ?y61x19⟩) hn ?r61x19
                case y61x19 => (intro wS hS; (try go_simp); (try with_reducible rfl))
                try simp only [Act.put, List.setIfInBounds_toArray, List.set_cons_zero, List.set_cons_succ]
                refine wpAnyH_take (i := 19) (oi := { dst := some 75, op := Op.load 42 (Operand.tmp 74), type := 42, pos := "ref.go:78", after := #[{ on := 18, ground := Ground.data }, { on := 13, ground := Ground.guard }], guard := some (13, false) }) (v := ?v61x20) rfl (by kernel_rfl) (by kernel_rfl) (by kernel_rfl) (fun _ _ _ h => h) (Or.inl ⟨by rfl, ?y61x20⟩) hn ?r61x20
                case y61x20 => (intro wS hS; have c1 := (New.trans HN.out hS).cell q1.out (fun h => h); (try go_simp); (try with_reducible rfl))
                try simp only [Act.put, List.setIfInBounds_toArray, List.set_cons_zero, List.set_cons_succ]
                refine wpAnyH_take (i := 20) (oi := { dst := some 76, op := Op.fieldAddr 45 (Operand.tmp 3) 5, type := 0, pos := "ref.go:78", after := #[{ on := 13, ground := Ground.guard }], guard := some (13, false) }) (v := ?v61x21) rfl (by kernel_rfl) (by kernel_rfl) (by kernel_rfl) (fun _ _ _ h => h) (Or.inl ⟨by rfl, ?y61x21⟩) hn ?r61x21
                case y61x21 => (intro wS hS; (try go_simp); (try with_reducible rfl))
                try simp only [Act.put, List.setIfInBounds_toArray, List.set_cons_zero, List.set_cons_succ]
                refine wpAnyH_take (i := 21) (oi := { dst := some 77, op := Op.load 43 (Operand.tmp 76), type := 43, pos := "ref.go:78", after := #[{ on := 20, ground := Ground.data }, { on := 13, ground := Ground.guard }], guard := some (13, false) }) (v := ?v61x22) rfl (by kernel_rfl) (by kernel_rfl) (by kernel_rfl) (fun _ _ _ h => h) (Or.inl ⟨by rfl, ?y61x22⟩) hn ?r61x22
                case y61x22 => (intro wS hS; have c0 := cellAt (hp1 HB'.out hS) 5 (v := .slice (some ⟨b2, o2, none⟩) ls'.length c4) rfl; (try go_simp); (try with_reducible rfl))
                try simp only [Act.put, List.setIfInBounds_toArray, List.set_cons_zero, List.set_cons_succ]
                refine wpAnyH_take (i := 22) (oi := { dst := some 78, op := Op.move (Operand.tmp 5), type := 3, pos := "ref.go:78", after := #[{ on := 13, ground := Ground.guard }], guard := some (13, false) }) (v := ?v61x23) rfl (by kernel_rfl) (by kernel_rfl) (by kernel_rfl) (fun _ _ _ h => h) (Or.inl ⟨by rfl, ?y61x23⟩) hn ?r61x23
                case y61x23 => (intro wS hS; (try go_simp); (try with_reducible rfl))
                try simp only [Act.put, List.setIfInBounds_toArray, List.set_cons_zero, List.set_cons_succ]
                refine wpAnyH_take (i := 23) (oi := { dst := some 79, op := Op.indexAddr 43 (Operand.tmp 77) (Operand.tmp 78), type := 0, pos := "ref.go:78", after := #[{ on := 21, ground := Ground.data }, { on := 22, ground := Ground.data }, { on := 13, ground := Ground.guard }], guard := some (13, false) }) (v := ?v61x24) rfl (by kernel_rfl) (by kernel_rfl) (by kernel_rfl) (fun _ _ _ h => h) (Or.inl ⟨by rfl, ?y61x24⟩) hn ?r61x24
                case y61x24 => (intro wS hS; (try go_simp); (try with_reducible rfl))
                try simp only [Act.put, List.setIfInBounds_toArray, List.set_cons_zero, List.set_cons_succ]
                refine wpAnyH_take (i := 24) (oi := { dst := some 80, op := Op.fieldAddr 88 (Operand.tmp 79) 1, type := 0, pos := "ref.go:78", after := #[{ on := 23, ground := Ground.data }, { on := 13, ground := Ground.guard }], guard := some (13, false) }) (v := ?v61x25) rfl (by kernel_rfl) (by kernel_rfl) (by kernel_rfl) (fun _ _ _ h => h) (Or.inl ⟨by rfl, ?y61x25⟩) hn ?r61x25
                case y61x25 => (intro wS hS; (try go_simp); (try with_reducible rfl))
                try simp only [Act.put, List.setIfInBounds_toArray, List.set_cons_zero, List.set_cons_succ]
                refine wpAnyH_take (i := 25) (oi := { dst := some 81, op := Op.load 42 (Operand.tmp 80), type := 42, pos := "ref.go:78", after := #[{ on := 24, ground := Ground.data }, { on := 13, ground := Ground.guard }], guard := some (13, false) }) (v := ?v61x26) rfl (by kernel_rfl) (by kernel_rfl) (by kernel_rfl) (fun _ _ _ h => h) (Or.inl ⟨by rfl, ?y61x26⟩) hn ?r61x26
                case y61x26 => (intro wS hS; have c1 := (New.trans HN.out hS).cell r1.out (fun h => h); (try go_simp); (try with_reducible rfl))
                try simp only [Act.put, List.setIfInBounds_toArray, List.set_cons_zero, List.set_cons_succ]
                refine wpAnyH_ready (rs := [26]) (by kernel_rfl) (by simp) ?_
                refine AllReadyH.cons (o := { dst := some 82, op := Op.call { callee := Callee.value (Operand.func 62), args := #[Operand.tmp 75, Operand.tmp 81], argTypes := #[42, 42] }, type := 4, pos := "ref.go:78", after := #[{ on := 19, ground := Ground.data }, { on := 25, ground := Ground.data }, { on := 13, ground := Ground.chain }, { on := 13, ground := Ground.guard }], guard := some (13, false) }) rfl (fun K hK => ?_) AllReadyH.nil
                go_simp
                refine (HAL.out _ (New.trans HN.out hn)).mono ?_
                rintro e wq ⟨rfl, hnq⟩
                go_wp2_with fail
                have hn := New.trans hn hnq
                refine hK.out _ _ (by first | exact hn | exact Upd.alloc hn _) (fun hn => ?_)
                clear hK K
                try simp only [Act.put, List.setIfInBounds_toArray, List.set_cons_zero, List.set_cons_succ]
                refine wpAnyH_take (i := 27) (oi := { dst := some 83, op := Op.unOp UnOp.not 4 (Operand.tmp 82), type := 4, pos := "ref.go:78", after := #[{ on := 26, ground := Ground.data }, { on := 13, ground := Ground.guard }], guard := some (13, false) }) (v := ?v61x27) rfl (by kernel_rfl) (by kernel_rfl) (by kernel_rfl) (fun _ _ _ h => h) (Or.inl ⟨by rfl, ?y61x27⟩) hn ?r61x27
                case y61x27 => (intro wS hS; (try go_simp); (try with_reducible rfl))
                try simp only [Act.put, List.setIfInBounds_toArray, List.set_cons_zero, List.set_cons_succ]
                refine wpAnyH_take (i := 28) (oi := { dst := some 84, op := Op.pick (Operand.tmp 69) (Operand.const (Value.bool true)) (Operand.tmp 83), type := 4, pos := "ref.go:78", after := #[{ on := 13, ground := Ground.data }, { on := 27, ground := Ground.data }], guard := none }) (v := ?v61x28) rfl (by kernel_rfl) (by kernel_rfl) (by kernel_rfl) (fun _ _ _ h => h) (Or.inl ⟨by rfl, ?y61x28⟩) hn ?r61x28
                case y61x28 => (intro wS hS; (try go_simp); (try with_reducible rfl))
                try simp only [Act.put, List.setIfInBounds_toArray, List.set_cons_zero, List.set_cons_succ]
                refine wpAnyH_done (by kernel_rfl) ?_ _
                refine NoPanic.normal ?_
                have HH := hid hn
                clear hn
                go_wp2_with fail
                go_ret
                exact ⟨_, rfl, iff_of_false (by decide) (fun h => HLS.out (congrArg Nms.ls h)), New.trans HN.out HH.out⟩
            · have hs1 : ((n : Int) != (m : Int)) = true := by simp; omega
              have HLS : Hid (¬ ls = ls') := get_ne HG1.out HG2.out (fun e => hnm (Prod.mk.inj e).1)
              clear hnm HBI
              go_wp2_with fail
              clear z0 z1 z2 z3 z4 z5
              refine wp_region_noPanic ?_
              refine wp_region_held_drew (S := (New w2)) (by kernel_rfl) (by first | exact hn | exact (Upd.refl _ _).drew | exact Upd.drew (by assumption)) (fun hn => ?_)
              generalize wr.drew = wd at *
              refine wpAnyH_take (i := 0) (oi := { dst := some 56, op := Op.fieldAddr 45 (Operand.tmp 2) 5, type := 0, pos := "ref.go:78", after := #[], guard := none }) (v := ?v62x1) rfl (by kernel_rfl) (by kernel_rfl) (by kernel_rfl) (fun _ _ _ h => h) (Or.inl ⟨by rfl, ?y62x1⟩) hn ?r62x1
              case y62x1 => (intro wS hS; (try go_simp); (try with_reducible rfl))
              try simp only [Act.put, List.setIfInBounds_toArray, List.set_cons_zero, List.set_cons_succ]
              refine wpAnyH_take (i := 1) (oi := { dst := some 57, op := Op.load 43 (Operand.tmp 56), type := 43, pos := "ref.go:78", after := #[{ on := 0, ground := Ground.data }], guard := none }) (v := ?v62x2) rfl (by kernel_rfl) (by kernel_rfl) (by kernel_rfl) (fun _ _ _ h => h) (Or.inl ⟨by rfl, ?y62x2⟩) hn ?r62x2
              case y62x2 => (intro wS hS; have c0 := cellAt (hp1 HB.out hS) 5 (v := .slice (some ⟨b, o, none⟩) ls.length c2) rfl; (try go_simp); (try with_reducible rfl))
              try simp only [Act.put, List.setIfInBounds_toArray, List.set_cons_zero, List.set_cons_succ]
              refine wpAnyH_take (i := 2) (oi := { dst := some 58, op := Op.move (Operand.tmp 5), type := 3, pos := "ref.go:78", after := #[], guard := none }) (v := ?v62x3) rfl (by kernel_rfl) (by kernel_rfl) (by kernel_rfl) (fun _ _ _ h => h) (Or.inl ⟨by rfl, ?y62x3⟩) hn ?r62x3
              case y62x3 => (intro wS hS; (try go_simp); (try with_reducible rfl))
              try simp only [Act.put, List.setIfInBounds_toArray, List.set_cons_zero, List.set_cons_succ]
              refine wpAnyH_take (i := 3) (oi := { dst := some 59, op := Op.indexAddr 43 (Operand.tmp 57) (Operand.tmp 58), type := 0, pos := "ref.go:78", after := #[{ on := 1, ground := Ground.data }, { on := 2, ground := Ground.data }], guard := none }) (v := ?v62x4) rfl (by kernel_rfl) (by kernel_rfl) (by kernel_rfl) (fun _ _ _ h => h) (Or.inl ⟨by rfl, ?y62x4⟩) hn ?r62x4
              case y62x4 => (intro wS hS; (try go_simp); (try with_reducible rfl))
              try simp only [Act.put, List.setIfInBounds_toArray, List.set_cons_zero, List.set_cons_succ]
              refine wpAnyH_take (i := 4) (oi := { dst := some 60, op := Op.fieldAddr 88 (Operand.tmp 59) 0, type := 0, pos := "ref.go:78", after := #[{ on := 3, ground := Ground.data }], guard := none }) (v := ?v62x5) rfl (by kernel_rfl) (by kernel_rfl) (by kernel_rfl) (fun _ _ _ h => h) (Or.inl ⟨by rfl, ?y62x5⟩) hn ?r62x5
              case y62x5 => (intro wS hS; (try go_simp); (try with_reducible rfl))
              try simp only [Act.put, List.setIfInBounds_toArray, List.set_cons_zero, List.set_cons_succ]
              refine wpAnyH_take (i := 5) (oi := { dst := some 61, op := Op.load 22 (Operand.tmp 60), type := 22, pos := "ref.go:78", after := #[{ on := 4, ground := Ground.data }], guard := none }) (v := ?v62x6) rfl (by kernel_rfl) (by kernel_rfl) (by kernel_rfl) (fun _ _ _ h => h) (Or.inl ⟨by rfl, ?y62x6⟩) hn ?r62x6
              case y62x6 => (intro wS hS; have c1 := (New.trans HN.out hS).cell q0.out (fun h => h); (try go_simp); (try with_reducible rfl))
              try simp only [Act.put, List.setIfInBounds_toArray, List.set_cons_zero, List.set_cons_succ]
              refine wpAnyH_take (i := 6) (oi := { dst := some 62, op := Op.fieldAddr 45 (Operand.tmp 3) 5, type := 0, pos := "ref.go:78", after := #[], guard := none }) (v := ?v62x7) rfl (by kernel_rfl) (by kernel_rfl) (by kernel_rfl) (fun _ _ _ h => h) (Or.inl ⟨by rfl, ?y62x7⟩) hn ?r62x7
              case y62x7 => (intro wS hS; (try go_simp); (try with_reducible rfl))
              try simp only [Act.put, List.setIfInBounds_toArray, List.set_cons_zero, List.set_cons_succ]
              refine wpAnyH_take (i := 7) (oi := { dst := some 63, op := Op.load 43 (Operand.tmp 62), type := 43, pos := "ref.go:78", after := #[{ on := 6, ground := Ground.data }], guard := none }) (v := ?v62x8) rfl (by kernel_rfl) (by kernel_rfl) (by kernel_rfl) (fun _ _ _ h => h) (Or.inl ⟨by rfl, ?y62x8⟩) hn ?r62x8
              case y62x8 => (intro wS hS; have c0 := cellAt (hp1 HB'.out hS) 5 (v := .slice (some ⟨b2, o2, none⟩) ls'.length c4) rfl; (try go_simp); (try with_reducible rfl))
              try simp only [Act.put, List.setIfInBounds_toArray, List.set_cons_zero, List.set_cons_succ]
              refine wpAnyH_take (i := 8) (oi := { dst := some 64, op := Op.move (Operand.tmp 5), type := 3, pos := "ref.go:78", after := #[], guard := none }) (v := ?v62x9) rfl (by kernel_rfl) (by kernel_rfl) (by kernel_rfl) (fun _ _ _ h => h) (Or.inl ⟨by rfl, ?y62x9⟩) hn ?r62x9
              case y62x9 => (intro wS hS; (try go_simp); (try with_reducible rfl))
              try simp only [Act.put, List.setIfInBounds_toArray, List.set_cons_zero, List.set_cons_succ]
              refine wpAnyH_take (i := 9) (oi := { dst := some 65, op := Op.indexAddr 43 (Operand.tmp 63) (Operand.tmp 64), type := 0, pos := "ref.go:78", after := #[{ on := 7, ground := Ground.data }, { on := 8, ground := Ground.data }], guard := none }) (v := ?v62x10) rfl (by kernel_rfl) (by kernel_rfl) (by kernel_rfl) (fun _ _ _ h => h) (Or.inl ⟨by rfl, ?y62x10⟩) hn ?r62x10
              case y62x10 => (intro wS hS; (try go_simp); (try with_reducible rfl))
              try simp only [Act.put, List.setIfInBounds_toArray, List.set_cons_zero, List.set_cons_succ]
              refine wpAnyH_take (i := 10) (oi := { dst := some 66, op := Op.fieldAddr 88 (Operand.tmp 65) 0, type := 0, pos := "ref.go:78", after := #[{ on := 9, ground := Ground.data }], guard := none }) (v := ?v62x11) rfl (by kernel_rfl) (by kernel_rfl) (by kernel_rfl) (fun _ _ _ h => h) (Or.inl ⟨by rfl, ?y62x11⟩) hn ?r62x11
              case y62x11 => (intro wS hS; (try go_simp); (try with_reducible rfl))
              try simp only [Act.put, List.setIfInBounds_toArray, List.set_cons_zero, List.set_cons_succ]
              refine wpAnyH_take (i := 11) (oi := { dst := some 67, op := Op.load 22 (Operand.tmp 66), type := 22, pos := "ref.go:78", after := #[{ on := 10, ground := Ground.data }], guard := none }) (v := ?v62x12) rfl (by kernel_rfl) (by kernel_rfl) (by kernel_rfl) (fun _ _ _ h => h) (Or.inl ⟨by rfl, ?y62x12⟩) hn ?r62x12
              case y62x12 => (intro wS hS; have c1 := (New.trans HN.out hS).cell r0.out (fun h => h); (try go_simp); (try with_reducible rfl))
              try simp only [Act.put, List.setIfInBounds_toArray, List.set_cons_zero, List.set_cons_succ]
              refine wpAnyH_take (i := 12) (oi := { dst := some 68, op := Op.binOp BinOp.neq 22 (Operand.tmp 61) (Operand.tmp 67) 22, type := 4, pos := "ref.go:78", after := #[{ on := 5, ground := Ground.data }, { on := 11, ground := Ground.data }], guard := none }) (v := ?v62x13) rfl (by kernel_rfl) (by kernel_rfl) (by kernel_rfl) (fun _ _ _ h => h) (Or.inl ⟨by rfl, ?y62x13⟩) hn ?r62x13
              case y62x13 => (intro wS hS; (try go_simp); (try with_reducible rfl))
              try simp only [Act.put, List.setIfInBounds_toArray, List.set_cons_zero, List.set_cons_succ]
              refine wpAnyH_take (i := 13) (oi := { dst := some 69, op := Op.move (Operand.tmp 68), type := 4, pos := "ref.go:78", after := #[{ on := 12, ground := Ground.data }], guard := none }) (v := ?v62x14) rfl (by kernel_rfl) (by kernel_rfl) (by kernel_rfl) (fun _ _ _ h => h) (Or.inl ⟨by rfl, ?y62x14⟩) hn ?r62x14
              case y62x14 => (intro wS hS; (try go_simp); (try with_reducible rfl))
              try simp only [Act.put, List.setIfInBounds_toArray, List.set_cons_zero, List.set_cons_succ]
              refine wpAnyH_take (i := 14) (oi := { dst := some 70, op := Op.fieldAddr 45 (Operand.tmp 2) 5, type := 0, pos := "ref.go:78", after := #[{ on := 13, ground := Ground.guard }], guard := some (13, false) }) (v := undef) rfl (by kernel_rfl) (by kernel_rfl) (by kernel_rfl) (fun _ _ _ h => h) (Or.inr ⟨by rfl, rfl⟩) hn ?_
              try simp only [Act.put, List.setIfInBounds_toArray, List.set_cons_zero, List.set_cons_succ]
              refine wpAnyH_take (i := 15) (oi := { dst := some 71, op := Op.load 43 (Operand.tmp 70), type := 43, pos := "ref.go:78", after := #[{ on := 14, ground := Ground.data }, { on := 13, ground := Ground.guard }], guard := some (13, false) }) (v := undef) rfl (by kernel_rfl) (by kernel_rfl) (by kernel_rfl) (fun _ _ _ h => h) (Or.inr ⟨by rfl, rfl⟩) hn ?_
              try simp only [Act.put, List.setIfInBounds_toArray, List.set_cons_zero, List.set_cons_succ]
              refine wpAnyH_take (i := 16) (oi := { dst := some 72, op := Op.move (Operand.tmp 5), type := 3, pos := "ref.go:78", after := #[{ on := 13, ground := Ground.guard }], guard := some (13, false) }) (v := undef) rfl (by kernel_rfl) (by kernel_rfl) (by kernel_rfl) (fun _ _ _ h => h) (Or.inr ⟨by rfl, rfl⟩) hn ?_
              try simp only [Act.put, List.setIfInBounds_toArray, List.set_cons_zero, List.set_cons_succ]
              refine wpAnyH_take (i := 17) (oi := { dst := some 73, op := Op.indexAddr 43 (Operand.tmp 71) (Operand.tmp 72), type := 0, pos := "ref.go:78", after := #[{ on := 15, ground := Ground.data }, { on := 16, ground := Ground.data }, { on := 13, ground := Ground.guard }], guard := some (13, false) }) (v := undef) rfl (by kernel_rfl) (by kernel_rfl) (by kernel_rfl) (fun _ _ _ h => h) (Or.inr ⟨by rfl, rfl⟩) hn ?_
              try simp only [Act.put, List.setIfInBounds_toArray, List.set_cons_zero, List.set_cons_succ]
              refine wpAnyH_take (i := 18) (oi := { dst := some 74, op := Op.fieldAddr 88 (Operand.tmp 73) 1, type := 0, pos := "ref.go:78", after := #[{ on := 17, ground := Ground.data }, { on := 13, ground := Ground.guard }], guard := some (13, false) }) (v := undef) rfl (by kernel_rfl) (by kernel_rfl) (by kernel_rfl) (fun _ _ _ h => h) (Or.inr ⟨by rfl, rfl⟩) hn ?_
              try simp only [Act.put, List.setIfInBounds_toArray, List.set_cons_zero, List.set_cons_succ]
              refine wpAnyH_take (i := 19) (oi := { dst := some 75, op := Op.load 42 (Operand.tmp 74), type := 42, pos := "ref.go:78", after := #[{ on := 18, ground := Ground.data }, { on := 13, ground := Ground.guard }], guard := some (13, false) }) (v := undef) rfl (by kernel_rfl) (by kernel_rfl) (by kernel_rfl) (fun _ _ _ h => h) (Or.inr ⟨by rfl, rfl⟩) hn ?_
              try simp only [Act.put, List.setIfInBounds_toArray, List.set_cons_zero, List.set_cons_succ]
              refine wpAnyH_take (i := 20) (oi := { dst := some 76, op := Op.fieldAddr 45 (Operand.tmp 3) 5, type := 0, pos := "ref.go:78", after := #[{ on := 13, ground := Ground.guard }], guard := some (13, false) }) (v := undef) rfl (by kernel_rfl) (by kernel_rfl) (by kernel_rfl) (fun _ _ _ h => h) (Or.inr ⟨by rfl, rfl⟩) hn ?_
              try simp only [Act.put, List.setIfInBounds_toArray, List.set_cons_zero, List.set_cons_succ]
              refine wpAnyH_take (i := 21) (oi := { dst := some 77, op := Op.load 43 (Operand.tmp 76), type := 43, pos := "ref.go:78", after := #[{ on := 20, ground := Ground.data }, { on := 13, ground := Ground.guard }], guard := some (13, false) }) (v := undef) rfl (by kernel_rfl) (by kernel_rfl) (by kernel_rfl) (fun _ _ _ h => h) (Or.inr ⟨by rfl, rfl⟩) hn ?_
              try simp only [Act.put, List.setIfInBounds_toArray, List.set_cons_zero, List.set_cons_succ]
              refine wpAnyH_take (i := 22) (oi := { dst := some 78, op := Op.move (Operand.tmp 5), type := 3, pos := "ref.go:78", after := #[{ on := 13, ground := Ground.guard }], guard := some (13, false) }) (v := undef) rfl (by kernel_rfl) (by kernel_rfl) (by kernel_rfl) (fun _ _ _ h => h) (Or.inr ⟨by rfl, rfl⟩) hn ?_
              try simp only [Act.put, List.setIfInBounds_toArray, List.set_cons_zero, List.set_cons_succ]
              refine wpAnyH_take (i := 23) (oi := { dst := some 79, op := Op.indexAddr 43 (Operand.tmp 77) (Operand.tmp 78), type := 0, pos := "ref.go:78", after := #[{ on := 21, ground := Ground.data }, { on := 22, ground := Ground.data }, { on := 13, ground := Ground.guard }], guard := some (13, false) }) (v := undef) rfl (by kernel_rfl) (by kernel_rfl) (by kernel_rfl) (fun _ _ _ h => h) (Or.inr ⟨by rfl, rfl⟩) hn ?_
              try simp only [Act.put, List.setIfInBounds_toArray, List.set_cons_zero, List.set_cons_succ]
              refine wpAnyH_take (i := 24) (oi := { dst := some 80, op := Op.fieldAddr 88 (Operand.tmp 79) 1, type := 0, pos := "ref.go:78", after := #[{ on := 23, ground := Ground.data }, { on := 13, ground := Ground.guard }], guard := some (13, false) }) (v := undef) rfl (by kernel_rfl) (by kernel_rfl) (by kernel_rfl) (fun _ _ _ h => h) (Or.inr ⟨by rfl, rfl⟩) hn ?_
              try simp only [Act.put, List.setIfInBounds_toArray, List.set_cons_zero, List.set_cons_succ]
              refine wpAnyH_take (i := 25) (oi := { dst := some 81, op := Op.load 42 (Operand.tmp 80), type := 42, pos := "ref.go:78", after := #[{ on := 24, ground := Ground.data }, { on := 13, ground := Ground.guard }], guard := some (13, false) }) (v := undef) rfl (by kernel_rfl) (by kernel_rfl) (by kernel_rfl) (fun _ _ _ h => h) (Or.inr ⟨by rfl, rfl⟩) hn ?_
              try simp only [Act.put, List.setIfInBounds_toArray, List.set_cons_zero, List.set_cons_succ]
              refine wpAnyH_take (i := 26) (oi := { dst := some 82, op := Op.call { callee := Callee.value (Operand.func 62), args := #[Operand.tmp 75, Operand.tmp 81], argTypes := #[42, 42] }, type := 4, pos := "ref.go:78", after := #[{ on := 19, ground := Ground.data }, { on := 25, ground := Ground.data }, { on := 13, ground := Ground.chain }, { on := 13, ground := Ground.guard }], guard := some (13, false) }) (v := undef) rfl (by kernel_rfl) (by kernel_rfl) (by kernel_rfl) (fun _ _ _ h => h) (Or.inr ⟨by rfl, rfl⟩) hn ?_
              try simp only [Act.put, List.setIfInBounds_toArray, List.set_cons_zero, List.set_cons_succ]
              refine wpAnyH_take (i := 27) (oi := { dst := some 83, op := Op.unOp UnOp.not 4 (Operand.tmp 82), type := 4, pos := "ref.go:78", after := #[{ on := 26, ground := Ground.data }, { on := 13, ground := Ground.guard }], guard := some (13, false) }) (v := undef) rfl (by kernel_rfl) (by kernel_rfl) (by kernel_rfl) (fun _ _ _ h => h) (Or.inr ⟨by rfl, rfl⟩) hn ?_
              try simp only [Act.put, List.setIfInBounds_toArray, List.set_cons_zero, List.set_cons_succ]
              refine wpAnyH_take (i := 28) (oi := { dst := some 84, op := Op.pick (Operand.tmp 69) (Operand.const (Value.bool true)) (Operand.tmp 83), type := 4, pos := "ref.go:78", after := #[{ on := 13, ground := Ground.data }, { on := 27, ground := Ground.data }], guard := none }) (v := ?v62x29) rfl (by kernel_rfl) (by kernel_rfl) (by kernel_rfl) (fun _ _ _ h => h) (Or.inl ⟨by rfl, ?y62x29⟩) hn ?r62x29
              case y62x29 => (intro wS hS; (try go_simp); (try with_reducible rfl))
              try simp only [Act.put, List.setIfInBounds_toArray, List.set_cons_zero, List.set_cons_succ]
              refine wpAnyH_done (by kernel_rfl) ?_ _
              refine NoPanic.normal ?_
              have HH := hid hn
              clear hn
              go_wp2_with fail
              go_ret
              exact ⟨_, rfl, iff_of_false (by decide) (fun h => HLS.out (congrArg Nms.ls h)), New.trans HN.out HH.out⟩
          · have e : i = ls.length := by omega
            subst e
            have HI : Hid (ls = ls') := by
              show ls = ls'
              have hl := HLN.out
              rw [hl] at hi2
              rw [← hl, List.take_length, hl, List.take_length] at hi2
              exact hi2
            clear hi2
            have HW := hid hnw
            clear hnw
            go_wp2_with fail
            go_ret
            exact ⟨_, rfl, iff_of_true rfl (nms_ext rfl rfl rfl rfl HP.out HI.out), New.trans HN.out HW.out⟩
      · have hb : (((ls.length : Nat) : Int) != ((ls'.length : Nat) : Int)) = true := by simp; omega
        have HLN := hid hlen
        clear hlen
        go_wp2_with fail
        go_ret
        exact ⟨_, rfl, iff_of_false (by decide) (fun h => HLN.out (congrArg (fun N => N.ls.length) h)), New.trans HN.out HN3.out⟩
  · have HP : Hid (¬ (⟨hm, hf, hl, md, fs, ls⟩ : Nms) = ⟨hm', hf', hl', md', fs', ls'⟩) := fun h => hall ⟨congrArg Nms.hm h, congrArg Nms.hf h, congrArg Nms.hl h, congrArg Nms.md h⟩
    clear HE HB HB' HL HL'
    by_cases e1 : hm = hm'
    · by_cases e2 : hf = hf'
      · by_cases e3 : hl = hl'
        · have e4 : md ≠ md' := fun e => hall ⟨e1, e2, e3, e⟩
          have g4 : (md.toList = md'.toList) = False := eq_false (tl_ne e4)
          have g4' : (md.toList == md'.toList) = false := beq_eq_false_iff_ne.2 (tl_ne e4)
          clear e4 hall
          subst e1 e2 e3
          go_enter Try.func20, Try.ntmps20
          go_upto_region 1 with fail
          rw [HW.out]
          clear HW
          go_wp2_with fail
          go_ret
          exact ⟨_, rfl, iff_of_false (by decide) (fun h => HP.out h), HN.out⟩
        · have g : (hl == hl') = false := by simpa using e3
          clear e3 hall
          subst e1 e2
          go_enter Try.func20, Try.ntmps20
          go_upto_region 1 with fail
          rw [HW.out]
          clear HW
          go_wp2_with fail
          go_ret
          exact ⟨_, rfl, iff_of_false (by decide) (fun h => HP.out h), HN.out⟩
      · have g : (hf == hf') = false := by simpa using e2
        clear e2 hall
        subst e1
        go_enter Try.func20, Try.ntmps20
        go_upto_region 1 with fail
        rw [HW.out]
        clear HW
        go_wp2_with fail
        go_ret
        exact ⟨_, rfl, iff_of_false (by decide) (fun h => HP.out h), HN.out⟩
    · have g : (hm == hm') = false := by simpa using e1
      clear e1 hall
      go_enter Try.func20, Try.ntmps20
      go_upto_region 1 with fail
      rw [HW.out]
      clear HW
      go_wp2_with fail
      go_ret
      exact ⟨_, rfl, iff_of_false (by decide) (fun h => HP.out h), HN.out⟩
end Go.Proofs.Ytnngibflnnmioaa
