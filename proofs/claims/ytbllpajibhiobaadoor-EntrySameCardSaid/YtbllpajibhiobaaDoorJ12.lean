/-
  Lists of instructions: whether two are the same, on both sides.
-/
import Derived.Test.YtbllpajibhiobaaDoorJ5
import Derived.Test.YtbllpajibhiobaaDoorJ11
import Derived.Test.YtbllpajibhiobaaDoorJ8
import Derived.Test.YtbllpajibhiobaaDoorJ9
import Derived.Test.YtbllpajibhiobaaDoorJ10
namespace Go.Proofs.YtbllpajibhiobaaDoor
open Go.RowKit Go.Proofs.Leb Go.Proofs.Own
set_option maxRecDepth 100000
set_option maxHeartbeats 8000000

def eqF8 : String := "slices.EqualFunc"
theorem take_all {α : Type} {xs ys : List α} (hl : xs.length = ys.length) (h : xs.take xs.length = ys.take xs.length) : xs = ys := by
  rw [hl] at h
  rw [← hl, List.take_length, hl, List.take_length] at h
  exact h
theorem eqIns_any {B B' : Nat → Prop} (x y : Value) (xs ys : List Ins) (w : World) (hx : RdE 12 EP w B x xs) (hy : RdE 12 EP w B' y ys) (h1 : FitL xs) (h2 : FitL ys) :
    Calls Tryd.prog 29 #[x, y, .func (.func 30) #[] #[]] w (SameP (xs = ys) w) := by
  obtain ⟨a, c, rfl, hcell⟩ := insP_at hx
  obtain ⟨a2, c2, rfl, hcell2⟩ := insP_at hy
  have HX := hid hcell
  have HY := hid hcell2
  have l1 := h1.1
  have l2 := h2.1
  have H1 := hid h1
  have H2 := hid h2
  clear hx hy hcell hcell2 h1 h2
  by_cases hl : xs.length = ys.length
  · have hb : (((xs.length : Nat) : Int) != ((ys.length : Nat) : Int)) = false := by simp [hl]
    have HL := hid hl
    clear hl
    go_enter Tryd.func29, Tryd.ntmps29
    go_wp2_with fail
    go_loopw [17] (fun c wr => ∃ i : Nat, c = .int .i64 i ∧ i ≤ xs.length ∧ xs.take i = ys.take i ∧ New w wr) (fun c _ => xs.length - (intOf c).toNat)
    case atStart => exact ⟨0, rfl, by omega, by simp, Upd.refl _ _⟩
    case round =>
      obtain ⟨i, rfl, hi1, hi2, hnw⟩ := hrel
      by_cases hi : i < xs.length
      · have hi' : i < ys.length := by have := HL.out; omega
        obtain ⟨b, o, l, u, rfl, hc, hl, hu, -, -⟩ := HX.out i hi
        obtain ⟨b2, o2, l2', u2, rfl, hd, hl', hu', -, -⟩ := HY.out i hi'
        obtain ⟨k0, k1, k2, k3, k4, k5, k6, k7, k8, k9, k10, k11⟩ := at12P (hc.new hnw)
        have hfx := H1.out.2 _ (List.getElem_mem hi)
        have hfy := H2.out.2 _ (List.getElem_mem hi')
        have HC : Hid (∀ w', New wr w' → Calls Tryd.prog 30 #[pI xs[i] l u, pI ys[i] l2' u2] w' (SameP (xs[i] = ys[i]) w')) := fun w' hn =>
          pSame_any _ _ _ _ _ _ w' ((hl.new hnw).new hn) ((hl'.new hnw).new hn) ((hu.new hnw).new hn) ((hu'.new hnw).new hn) (by have := hfx.1; omega) (by have := hfy.1; omega) (by have := hfx.2.2; omega) (by have := hfy.2.2; omega)
        have HG1 : Hid (xs[i]? = some xs[i]) := List.getElem?_eq_getElem hi
        have HG2 : Hid (ys[i]? = some ys[i]) := List.getElem?_eq_getElem hi'
        have HI := hid hi2
        have HW := hid hnw
        have HD := hid (hd.new hnw)
        have HNA := hid (fun o o' => ((Upd.refl (fun _ => False) wr).alloc o).alloc o')
        obtain ⟨ul, uc, rfl⟩ := hl.shape
        obtain ⟨vl, vc, rfl⟩ := hl'.shape
        obtain ⟨uu, uuc, rfl⟩ := hu.shape
        obtain ⟨vv, vvc, rfl⟩ := hu'.shape
        have HD' : Hid (∀ ob, At12 (wr.alloc ob) b2 (o2 + i * 12) (cells ys[i] (.slice vl ys[i].li.length vc) (.slice vv (lb ys[i].ty).length vvc))) := fun ob => HD.out.new ((Upd.refl (fun _ => False) wr).alloc ob)
        clear hc hd hi2 hnw hu hu' hl hl' hfx hfy
        generalize xs[i] = P at *
        generalize ys[i] = Q at *
        obtain ⟨p, c, k, t, i', x, y, li, n, raw, lane, ty⟩ := P
        obtain ⟨p2, c2', k2', t2, i2, x2, y2, li2, n2, raw2, lane2, ty2⟩ := Q
        unfold pI at HC
        simp only at k0 k1 k2 k3 k4 k5 k6 k7 k8 k9 k10 k11 HC
        have j0 := fun ob => (at12P (HD'.out ob)).1
        have j1 := fun ob => (at12P (HD'.out ob)).2.1
        have j2 := fun ob => (at12P (HD'.out ob)).2.2.1
        have j3 := fun ob => (at12P (HD'.out ob)).2.2.2.1
        have j4 := fun ob => (at12P (HD'.out ob)).2.2.2.2.1
        have j5 := fun ob => (at12P (HD'.out ob)).2.2.2.2.2.1
        have j6 := fun ob => (at12P (HD'.out ob)).2.2.2.2.2.2.1
        have j7 := fun ob => (at12P (HD'.out ob)).2.2.2.2.2.2.2.1
        have j8 := fun ob => (at12P (HD'.out ob)).2.2.2.2.2.2.2.2.1
        have j9 := fun ob => (at12P (HD'.out ob)).2.2.2.2.2.2.2.2.2.1
        have j10 := fun ob => (at12P (HD'.out ob)).2.2.2.2.2.2.2.2.2.2.1
        have j11 := fun ob => (at12P (HD'.out ob)).2.2.2.2.2.2.2.2.2.2.2
        simp only at j0 j1 j2 j3 j4 j5 j6 j7 j8 j9 j10 j11
        clear HD HD'
        go_wp2_with fail
        refine (HC.out _ (HNA.out _ _)).mono ?_
        rintro e w3 ⟨bb, rfl, hbb, hn3⟩
        have HN3 := hid (New.trans HW.out (New.trans (HNA.out _ _) hn3))
        clear hn3 k0 k1 k2 k3 k4 k5 k6 k7 k8 k9 k10 k11 j0 j1 j2 j3 j4 j5 j6 j7 j8 j9 j10 j11 HC
        cases bb with
        | true =>
          have HP := hid (hbb.1 rfl)
          clear hbb
          go_wp2_with fail
          go_roundw
          case rel => exact ⟨i + 1, by go_num, by omega, take_eq_step HI.out HG1.out (by rw [HG2.out, ← HP.out]), HN3.out⟩
          case measure => simp [intOf]; omega
        | false =>
          have HP := hid (fun h => Bool.noConfusion (hbb.2 h) : ¬ _)
          clear hbb
          go_wp2_with fail
          go_ret
          exact ⟨_, rfl, iff_of_false (by decide) (get_ne HG1.out HG2.out HP.out), HN3.out⟩
      · have e : i = xs.length := by omega
        subst e
        have HI : Hid (xs = ys) := take_all HL.out hi2
        clear hi2
        have HW := hid hnw
        clear hnw
        go_wp2_with fail
        go_ret
        exact ⟨_, rfl, iff_of_true rfl HI.out, HW.out⟩
  · have hb : (((xs.length : Nat) : Int) != ((ys.length : Nat) : Int)) = true := by simp; omega
    have HL := hid hl
    clear hl
    go_enter Tryd.func29, Tryd.ntmps29
    go_wp2_with fail
    go_ret
    exact ⟨_, rfl, iff_of_false (by decide) (fun h => HL.out (congrArg List.length h)), Upd.refl _ _⟩
theorem pSame8_any {B B' : Nat → Prop} (x y : Value) (xs ys : List Ins) (w : World) (hx : RdE 12 EP w B x xs) (hy : RdE 12 EP w B' y ys) (h1 : FitL xs) (h2 : FitL ys) :
    Calls Tryd.prog 21 #[x, y] w (SameP (xs = ys) w) := by
  have HE := hid (eqIns_any x y xs ys w hx hy h1 h2)
  obtain ⟨a, c, rfl⟩ := hx.shape
  obtain ⟨a2, c2, rfl⟩ := hy.shape
  clear hx hy h1 h2
  go_enter Tryd.func21, Tryd.ntmps21
  go_wp2_with fail
  refine HE.out.mono ?_
  rintro e w2 ⟨b, rfl, hb, hn⟩
  have HB := hid hb
  have HN := hid hn
  clear hb hn
  go_wp2_with fail
  go_ret
  exact ⟨_, rfl, HB.out, HN.out⟩
theorem rSame8_any {B B' : Nat → Prop} (x y : Value) (xs ys : List Ins) (w : World) (hx : RdE 12 ER w B x xs) (hy : RdE 12 ER w B' y ys) (h1 : FitL xs) (h2 : FitL ys) :
    Calls Tryd.prog 22 #[x, y] w (SameP (xs = ys) w) := by
  obtain ⟨a, c, rfl, hcell⟩ := insR_at hx
  obtain ⟨a2, c2, rfl, hcell2⟩ := insR_at hy
  have HX := hid hcell
  have HY := hid hcell2
  have l1 := h1.1
  have l2 := h2.1
  have H1 := hid h1
  have H2 := hid h2
  clear hx hy hcell hcell2 h1 h2
  by_cases hl : xs.length = ys.length
  · have hb : (((xs.length : Nat) : Int) != ((ys.length : Nat) : Int)) = false := by simp [hl]
    have HL := hid hl
    clear hl
    go_enter Tryd.func22, Tryd.ntmps22
    go_wp2_with fail
    go_loopw [5] (fun c wr => ∃ i : Nat, c = .int .i64 i ∧ i ≤ xs.length ∧ xs.take i = ys.take i ∧ New w wr) (fun c _ => xs.length - (intOf c).toNat)
    case atStart => exact ⟨0, rfl, by omega, by simp, Upd.refl _ _⟩
    case round =>
      obtain ⟨i, rfl, hi1, hi2, hnw⟩ := hrel
      by_cases hi : i < xs.length
      · have hi' : i < ys.length := by have := HL.out; omega
        obtain ⟨b, o, l, rfl, hc, hl, -⟩ := HX.out i hi
        obtain ⟨b2, o2, l2', rfl, hd, hl', -⟩ := HY.out i hi'
        have hfx := H1.out.2 _ (List.getElem_mem hi)
        have hfy := H2.out.2 _ (List.getElem_mem hi')
        have HC : Hid (∀ w', New w w' → Calls Tryd.prog 31 #[rI xs[i] l, rI ys[i] l2'] w' (SameP (xs[i] = ys[i]) w')) := fun w' hn =>
          rSame_any _ _ _ _ w' (hl.new hn) (hl'.new hn) (by have := hfx.1; omega) (by have := hfy.1; omega)
        have HG1 : Hid (xs[i]? = some xs[i]) := List.getElem?_eq_getElem hi
        have HG2 : Hid (ys[i]? = some ys[i]) := List.getElem?_eq_getElem hi'
        have HI := hid hi2
        have HW := hid hnw
        obtain ⟨ul, uc, rfl⟩ := hl.shape
        obtain ⟨vl, vc, rfl⟩ := hl'.shape
        have HCX := hid hc
        have HCY := hid hd
        clear hc hd hi2 hnw hl hl' hfx hfy
        generalize xs[i] = P at *
        generalize ys[i] = Q at *
        obtain ⟨p, c, k, t, i', x, y, li, n, raw, lane, ty⟩ := P
        obtain ⟨p2, c2', k2', t2, i2, x2, y2, li2, n2, raw2, lane2, ty2⟩ := Q
        unfold rI at HC
        simp only at HC
        have hn : New w wr.drew := HW.out.drew
        go_wp2_with fail
        refine wp_region_noPanic ?_
        refine wp_region_held_drew (S := (New w)) (by kernel_rfl) (by first | exact hn | exact (Upd.refl _ _).drew | exact Upd.drew (by assumption)) (fun hn => ?_)
        generalize wr.drew = wd at *
        refine wpAnyH_take (i := 0) (oi := { dst := some 17, op := Op.move (Operand.tmp 0), type := 33, pos := "ref.go:70", after := #[], guard := none }) (v := ?v37x1) rfl (by kernel_rfl) (by kernel_rfl) (by kernel_rfl) (fun _ _ _ h => h) (Or.inl ⟨by rfl, ?y37x1⟩) hn ?r37x1
        case y37x1 => (intro wS hS; (try go_simp); (try with_reducible rfl))
        try simp only [Act.put, List.setIfInBounds_toArray, List.set_cons_zero, List.set_cons_succ]
        refine wpAnyH_take (i := 1) (oi := { dst := some 18, op := Op.move (Operand.tmp 5), type := 3, pos := "ref.go:70", after := #[], guard := none }) (v := ?v37x2) rfl (by kernel_rfl) (by kernel_rfl) (by kernel_rfl) (fun _ _ _ h => h) (Or.inl ⟨by rfl, ?y37x2⟩) hn ?r37x2
        case y37x2 => (intro wS hS; (try go_simp); (try with_reducible rfl))
        try simp only [Act.put, List.setIfInBounds_toArray, List.set_cons_zero, List.set_cons_succ]
        refine wpAnyH_take (i := 2) (oi := { dst := some 19, op := Op.indexAddr 33 (Operand.tmp 17) (Operand.tmp 18), type := 0, pos := "ref.go:70", after := #[{ on := 0, ground := Ground.data }, { on := 1, ground := Ground.data }], guard := none }) (v := ?v37x3) rfl (by kernel_rfl) (by kernel_rfl) (by kernel_rfl) (fun _ _ _ h => h) (Or.inl ⟨by rfl, ?y37x3⟩) hn ?r37x3
        case y37x3 => (intro wS hS; (try go_simp); (try with_reducible rfl))
        try simp only [Act.put, List.setIfInBounds_toArray, List.set_cons_zero, List.set_cons_succ]
        refine wpAnyH_take (i := 3) (oi := { dst := some 20, op := Op.load 98 (Operand.tmp 19), type := 98, pos := "ref.go:70", after := #[{ on := 2, ground := Ground.data }], guard := none }) (v := ?v37x4) rfl (by kernel_rfl) (by kernel_rfl) (by kernel_rfl) (fun _ _ _ h => h) (Or.inl ⟨by rfl, ?y37x4⟩) hn ?r37x4
        case y37x4 => (intro wS hS; obtain ⟨k0, k1, k2, k3, k4, k5, k6, k7, k8, k9, k10, k11⟩ := at12R (HCX.out.new hS); (try go_simp); (try with_reducible rfl))
        try simp only [Act.put, List.setIfInBounds_toArray, List.set_cons_zero, List.set_cons_succ]
        refine wpAnyH_take (i := 4) (oi := { dst := some 21, op := Op.move (Operand.tmp 1), type := 33, pos := "ref.go:70", after := #[], guard := none }) (v := ?v37x5) rfl (by kernel_rfl) (by kernel_rfl) (by kernel_rfl) (fun _ _ _ h => h) (Or.inl ⟨by rfl, ?y37x5⟩) hn ?r37x5
        case y37x5 => (intro wS hS; (try go_simp); (try with_reducible rfl))
        try simp only [Act.put, List.setIfInBounds_toArray, List.set_cons_zero, List.set_cons_succ]
        refine wpAnyH_take (i := 5) (oi := { dst := some 22, op := Op.move (Operand.tmp 5), type := 3, pos := "ref.go:70", after := #[], guard := none }) (v := ?v37x6) rfl (by kernel_rfl) (by kernel_rfl) (by kernel_rfl) (fun _ _ _ h => h) (Or.inl ⟨by rfl, ?y37x6⟩) hn ?r37x6
        case y37x6 => (intro wS hS; (try go_simp); (try with_reducible rfl))
        try simp only [Act.put, List.setIfInBounds_toArray, List.set_cons_zero, List.set_cons_succ]
        refine wpAnyH_take (i := 6) (oi := { dst := some 23, op := Op.indexAddr 33 (Operand.tmp 21) (Operand.tmp 22), type := 0, pos := "ref.go:70", after := #[{ on := 4, ground := Ground.data }, { on := 5, ground := Ground.data }], guard := none }) (v := ?v37x7) rfl (by kernel_rfl) (by kernel_rfl) (by kernel_rfl) (fun _ _ _ h => h) (Or.inl ⟨by rfl, ?y37x7⟩) hn ?r37x7
        case y37x7 => (intro wS hS; (try go_simp); (try with_reducible rfl))
        try simp only [Act.put, List.setIfInBounds_toArray, List.set_cons_zero, List.set_cons_succ]
        refine wpAnyH_take (i := 7) (oi := { dst := some 24, op := Op.load 98 (Operand.tmp 23), type := 98, pos := "ref.go:70", after := #[{ on := 6, ground := Ground.data }], guard := none }) (v := ?v37x8) rfl (by kernel_rfl) (by kernel_rfl) (by kernel_rfl) (fun _ _ _ h => h) (Or.inl ⟨by rfl, ?y37x8⟩) hn ?r37x8
        case y37x8 => (intro wS hS; obtain ⟨k0, k1, k2, k3, k4, k5, k6, k7, k8, k9, k10, k11⟩ := at12R (HCY.out.new hS); (try go_simp); (try with_reducible rfl))
        try simp only [Act.put, List.setIfInBounds_toArray, List.set_cons_zero, List.set_cons_succ]
        refine wpAnyH_ready (rs := [8]) (by kernel_rfl) (by simp) ?_
        refine AllReadyH.cons (o := { dst := some 25, op := Op.call { callee := Callee.value (Operand.func 31), args := #[Operand.tmp 20, Operand.tmp 24], argTypes := #[98, 98] }, type := 4, pos := "ref.go:70", after := #[{ on := 3, ground := Ground.data }, { on := 7, ground := Ground.data }], guard := none }) rfl (fun K hK => ?_) AllReadyH.nil
        go_simp
        refine (HC.out _ hn).mono ?_
        rintro e wq ⟨bb, rfl, hbb, hnq⟩
        have HB := hid hbb
        clear hbb
        go_wp2_with fail
        have hn := hn.trans hnq
        refine hK.out _ _ (by first | exact hn | exact Upd.alloc hn _) (fun hn => ?_)
        clear hK K
        try simp only [Act.put, List.setIfInBounds_toArray, List.set_cons_zero, List.set_cons_succ]
        refine wpAnyH_take (i := 9) (oi := { dst := some 26, op := Op.unOp UnOp.not 4 (Operand.tmp 25), type := 4, pos := "ref.go:70", after := #[{ on := 8, ground := Ground.data }], guard := none }) (v := ?v37x9) rfl (by kernel_rfl) (by kernel_rfl) (by kernel_rfl) (fun _ _ _ h => h) (Or.inl ⟨by rfl, ?y37x9⟩) hn ?r37x9
        case y37x9 => (intro wS hS; go_simp; (try go_simp); (try with_reducible rfl))
        try simp only [Act.put, List.setIfInBounds_toArray, List.set_cons_zero, List.set_cons_succ]
        refine wpAnyH_done (by kernel_rfl) ?_ _
        refine NoPanic.normal ?_
        have HH := hid hn
        clear hn
        cases bb
        (go_wp2_with fail; go_ret; exact ⟨_, rfl, iff_of_false (by decide) (get_ne HG1.out HG2.out (fun h => Bool.noConfusion (HB.out.2 h))), HH.out⟩)
        go_wp2_with fail
        go_roundw
        case rel => exact ⟨i + 1, by go_num, by omega, take_eq_step HI.out HG1.out (by rw [HG2.out, ← HB.out.1 rfl]), HH.out⟩
        case measure => (simp [intOf]; omega)
      · have e : i = xs.length := by omega
        subst e
        have HI : Hid (xs = ys) := take_all HL.out hi2
        clear hi2
        have HW := hid hnw
        clear hnw
        go_wp2_with fail
        go_ret
        exact ⟨_, rfl, iff_of_true rfl HI.out, HW.out⟩
  · have hb : (((xs.length : Nat) : Int) != ((ys.length : Nat) : Int)) = true := by simp; omega
    have HL := hid hl
    clear hl
    go_enter Tryd.func22, Tryd.ntmps22
    go_wp2_with fail
    go_ret
    exact ⟨_, rfl, iff_of_false (by decide) (fun h => HL.out (congrArg List.length h)), Upd.refl _ _⟩
end Go.Proofs.YtbllpajibhiobaaDoor

namespace Go.Proofs.YtbllpajibhiobaaDoor
open Go.RowKit Go.Proofs.Leb Go.Proofs.Own
set_option maxRecDepth 100000
set_option maxHeartbeats 8000000

theorem pSameG_any {B B' : Nat → Prop} (g h : Glb) (x y : Value) (w : World) (hx : RdE 12 EP w B x g.l) (hy : RdE 12 EP w B' y h.l) (f1 : FitG g) (f2 : FitG h) :
    Calls Tryd.prog 6 #[.agg #[.int .u8 g.t, .bool g.m, x], .agg #[.int .u8 h.t, .bool h.m, y]] w (SameP (g = h) w) := by
  have HE := hid (fun w' (hn : New w w') => pSame8_any x y g.l h.l w' (hx.new EP.ok hn) (hy.new EP.ok hn) f1 f2)
  obtain ⟨a, c, rfl⟩ := hx.shape
  obtain ⟨a2, c2, rfl⟩ := hy.shape
  clear hx hy f1 f2
  have HN := hid (fun o o' => ((Upd.refl (fun _ => False) w).alloc o).alloc o')
  obtain ⟨t, m, xs⟩ := g
  obtain ⟨t', m', ys⟩ := h
  simp only at *
  go_enter Tryd.func6, Tryd.ntmps6
  go_wp2_with fail
  all_goals first
    | (go_ret
       refine ⟨false, rfl, ⟨(fun h => by cases h), (fun h => ?_)⟩, HN.out _ _⟩
       first | (injection h; contradiction) | (exfalso; simp_all))
    | skip
  refine (HE.out _ (HN.out _ _)).mono ?_
  rintro e w1 ⟨b, rfl, hb, hn1⟩
  have HB := hid hb
  have HN1 := hid (New.trans (HN.out _ _) hn1)
  clear hb hn1 HE
  go_wp2_with fail
  go_ret
  refine ⟨_, rfl, HB.out.trans ⟨fun h => by simp_all, fun h => by injection h⟩, HN1.out⟩
theorem rSameG_any {B B' : Nat → Prop} (g h : Glb) (x y : Value) (w : World) (hx : RdE 12 ER w B x g.l) (hy : RdE 12 ER w B' y h.l) (f1 : FitG g) (f2 : FitG h) :
    Calls Tryd.prog 7 #[.agg #[.int .u8 g.t, .bool g.m, x], .agg #[.int .u8 h.t, .bool h.m, y]] w (SameP (g = h) w) := by
  have HE := hid (fun w' (hn : New w w') => rSame8_any x y g.l h.l w' (hx.new ER.ok hn) (hy.new ER.ok hn) f1 f2)
  obtain ⟨a, c, rfl⟩ := hx.shape
  obtain ⟨a2, c2, rfl⟩ := hy.shape
  clear hx hy f1 f2
  have HN := hid (fun o o' => ((Upd.refl (fun _ => False) w).alloc o).alloc o')
  obtain ⟨t, m, xs⟩ := g
  obtain ⟨t', m', ys⟩ := h
  simp only at *
  go_enter Tryd.func7, Tryd.ntmps7
  go_wp2_with fail
  all_goals first
    | (go_ret
       refine ⟨false, rfl, ⟨(fun h => by cases h), (fun h => ?_)⟩, HN.out _ _⟩
       first | (injection h; contradiction) | (exfalso; simp_all))
    | skip
  refine (HE.out _ (HN.out _ _)).mono ?_
  rintro e w1 ⟨b, rfl, hb, hn1⟩
  have HB := hid hb
  have HN1 := hid (New.trans (HN.out _ _) hn1)
  clear hb hn1 HE
  go_wp2_with fail
  go_ret
  refine ⟨_, rfl, HB.out.trans ⟨fun h => by simp_all, fun h => by injection h⟩, HN1.out⟩
theorem dat_iff {t : Bool} {m : Int} {xs ys : List Ins} {s s' : ByteArray} : (⟨t, m, xs, s⟩ : Dat) = ⟨t, m, ys, s'⟩ ↔ xs = ys ∧ s.toList = s'.toList := by
  constructor
  · intro h
    injection h with _ _ h1 h2
    exact ⟨h1, by rw [h2]⟩
  · rintro ⟨rfl, h⟩
    rw [tl_inj h]
theorem pSameD_any {B B' : Nat → Prop} (g h : Dat) (x y : Value) (w : World) (hx : RdE 12 EP w B x g.off) (hy : RdE 12 EP w B' y h.off) (f1 : FitD g) (f2 : FitD h) :
    Calls Tryd.prog 12 #[.agg #[.bool g.a, .int .u32 g.me, x, .string g.s], .agg #[.bool h.a, .int .u32 h.me, y, .string h.s]] w (SameP (g = h) w) := by
  have HE := hid (fun w' (hn : New w w') => pSame8_any x y g.off h.off w' (hx.new EP.ok hn) (hy.new EP.ok hn) f1.1 f2.1)
  obtain ⟨a, c, rfl⟩ := hx.shape
  obtain ⟨a2, c2, rfl⟩ := hy.shape
  clear hx hy f1 f2
  have HN := hid (fun o o' => ((Upd.refl (fun _ => False) w).alloc o).alloc o')
  obtain ⟨t, m, xs, s⟩ := g
  obtain ⟨t', m', ys, s'⟩ := h
  simp only at *
  go_enter Tryd.func12, Tryd.ntmps12
  go_wp2_with fail
  all_goals first
    | (go_ret
       refine ⟨false, rfl, ⟨(fun h => by cases h), (fun h => ?_)⟩, HN.out _ _⟩
       first | (injection h; contradiction) | (exfalso; simp_all))
    | skip
  refine (HE.out _ (HN.out _ _)).mono ?_
  rintro e w1 ⟨b, rfl, hb, hn1⟩
  have HB := hid hb
  have HN1 := hid (New.trans (HN.out _ _) hn1)
  clear hb HE
  have z0 : w1.cell? ⟨w.heap.size, 3, none⟩ = some (.string s) := hn1.cell (by rw [box21]; rfl) (fun h => h)
  have z1 : w1.cell? ⟨w.heap.size + 1, 3, none⟩ = some (.string s') := hn1.cell (by rw [box22]; rfl) (fun h => h)
  clear hn1
  cases b with
  | false =>
    have HB2 : Hid (¬ xs = ys) := fun h => Bool.noConfusion (HB.out.2 h)
    clear HB
    go_wp2_with fail
    go_ret
    exact ⟨_, rfl, iff_of_false (by decide) (fun h => HB2.out (by injection h)), HN1.out⟩
  | true =>
    have HB2 := hid (HB.out.1 rfl)
    clear HB
    go_wp2_with fail
    go_ret
    refine ⟨_, rfl, ?_, HN1.out⟩
    have hx := HB2.out
    subst_vars
    rw [dat_iff]
    simp_all
theorem rSameD_any {B B' : Nat → Prop} (g h : Dat) (x y : Value) (w : World) (hx : RdE 12 ER w B x g.off) (hy : RdE 12 ER w B' y h.off) (f1 : FitD g) (f2 : FitD h) :
    Calls Tryd.prog 13 #[.agg #[.bool g.a, .int .u32 g.me, x, .string g.s], .agg #[.bool h.a, .int .u32 h.me, y, .string h.s]] w (SameP (g = h) w) := by
  have HE := hid (fun w' (hn : New w w') => rSame8_any x y g.off h.off w' (hx.new ER.ok hn) (hy.new ER.ok hn) f1.1 f2.1)
  obtain ⟨a, c, rfl⟩ := hx.shape
  obtain ⟨a2, c2, rfl⟩ := hy.shape
  clear hx hy f1 f2
  have HN := hid (fun o o' => ((Upd.refl (fun _ => False) w).alloc o).alloc o')
  obtain ⟨t, m, xs, s⟩ := g
  obtain ⟨t', m', ys, s'⟩ := h
  simp only at *
  go_enter Tryd.func13, Tryd.ntmps13
  go_wp2_with fail
  all_goals first
    | (go_ret
       refine ⟨false, rfl, ⟨(fun h => by cases h), (fun h => ?_)⟩, HN.out _ _⟩
       first | (injection h; contradiction) | (exfalso; simp_all))
    | skip
  refine (HE.out _ (HN.out _ _)).mono ?_
  rintro e w1 ⟨b, rfl, hb, hn1⟩
  have HB := hid hb
  have HN1 := hid (New.trans (HN.out _ _) hn1)
  clear hb HE
  have z0 : w1.cell? ⟨w.heap.size, 3, none⟩ = some (.string s) := hn1.cell (by rw [box21]; rfl) (fun h => h)
  have z1 : w1.cell? ⟨w.heap.size + 1, 3, none⟩ = some (.string s') := hn1.cell (by rw [box22]; rfl) (fun h => h)
  clear hn1
  cases b with
  | false =>
    have HB2 : Hid (¬ xs = ys) := fun h => Bool.noConfusion (HB.out.2 h)
    clear HB
    go_wp2_with fail
    go_ret
    exact ⟨_, rfl, iff_of_false (by decide) (fun h => HB2.out (by injection h)), HN1.out⟩
  | true =>
    have HB2 := hid (HB.out.1 rfl)
    clear HB
    go_wp2_with fail
    go_ret
    refine ⟨_, rfl, ?_, HN1.out⟩
    have hx := HB2.out
    subst_vars
    rw [dat_iff]
    simp_all
end Go.Proofs.YtbllpajibhiobaaDoor

namespace Go.Proofs.YtbllpajibhiobaaDoor
open Go.RowKit Go.Proofs.Leb Go.Proofs.Own
set_option maxRecDepth 100000
set_option maxHeartbeats 8000000

theorem eqLL_any {B B' : Nat → Prop} (x y : Value) (xs ys : List (List Ins)) (w : World) (hx : RdE 1 (E1 FXP) w B x xs) (hy : RdE 1 (E1 FXP) w B' y ys) (h1 : FitLL xs) (h2 : FitLL ys) :
    Calls Tryd.prog 23 #[x, y, .func (.func 21) #[] #[]] w (SameP (xs = ys) w) := by
  obtain ⟨a, c, rfl, hcell⟩ := e1_at hx
  obtain ⟨a2, c2, rfl, hcell2⟩ := e1_at hy
  have HX := hid hcell
  have HY := hid hcell2
  have l1 := h1.1
  have l2 := h2.1
  have H1 := hid h1
  have H2 := hid h2
  clear hx hy hcell hcell2 h1 h2
  by_cases hl : xs.length = ys.length
  · have hb : (((xs.length : Nat) : Int) != ((ys.length : Nat) : Int)) = false := by simp [hl]
    have HL := hid hl
    clear hl
    go_enter Tryd.func23, Tryd.ntmps23
    go_wp2_with fail
    go_loopw [17] (fun c wr => ∃ i : Nat, c = .int .i64 i ∧ i ≤ xs.length ∧ xs.take i = ys.take i ∧ New w wr) (fun c _ => xs.length - (intOf c).toNat)
    case atStart => exact ⟨0, rfl, by omega, by simp, Upd.refl _ _⟩
    case round =>
      obtain ⟨i, rfl, hi1, hi2, hnw⟩ := hrel
      by_cases hi : i < xs.length
      · have hi' : i < ys.length := by have := HL.out; omega
        obtain ⟨b, o, u, rfl, hc, hu⟩ := HX.out i hi
        obtain ⟨b2, o2, v, rfl, hd, hv⟩ := HY.out i hi'
        have k0 := hnw.cell hc (fun h => h)
        have j0 := hnw.cell hd (fun h => h)
        have HC : Hid (∀ w', New wr w' → Calls Tryd.prog 21 #[u, v] w' (SameP (xs[i] = ys[i]) w')) := fun w' hn =>
          pSame8_any u v _ _ w' (RdE.new EP.ok hu (New.trans hnw hn)) (RdE.new EP.ok hv (New.trans hnw hn)) (H1.out.2 _ (List.getElem_mem hi)) (H2.out.2 _ (List.getElem_mem hi'))
        have HG1 : Hid (xs[i]? = some xs[i]) := List.getElem?_eq_getElem hi
        have HG2 : Hid (ys[i]? = some ys[i]) := List.getElem?_eq_getElem hi'
        have HI := hid hi2
        have HW := hid hnw
        have HNA := hid (fun o o' => ((Upd.refl (fun _ => False) wr).alloc o).alloc o')
        obtain ⟨ua, uc, rfl⟩ : ∃ a c, u = .slice a xs[i].length c := RdE.shape hu
        obtain ⟨va, vc, rfl⟩ : ∃ a c, v = .slice a ys[i].length c := RdE.shape hv
        clear hc hd hi2 hnw hu hv
        generalize xs[i] = P at *
        generalize ys[i] = Q at *
        go_wp2_with fail
        refine (HC.out _ (Upd.refl _ _)).mono ?_
        rintro e w3 ⟨bb, rfl, hbb, hn3⟩
        have HN3 := hid (New.trans HW.out hn3)
        clear hn3 k0 j0 HC
        cases bb with
        | true =>
          have HP := hid (hbb.1 rfl)
          clear hbb
          go_wp2_with fail
          go_roundw
          case rel => exact ⟨i + 1, by go_num, by omega, take_eq_step HI.out HG1.out (by rw [HG2.out, ← HP.out]), HN3.out⟩
          case measure => simp [intOf]; omega
        | false =>
          have HP := hid (fun h => Bool.noConfusion (hbb.2 h) : ¬ _)
          clear hbb
          go_wp2_with fail
          go_ret
          exact ⟨_, rfl, iff_of_false (by decide) (get_ne HG1.out HG2.out HP.out), HN3.out⟩
      · have e : i = xs.length := by omega
        subst e
        have HI : Hid (xs = ys) := take_all HL.out hi2
        clear hi2
        have HW := hid hnw
        clear hnw
        go_wp2_with fail
        go_ret
        exact ⟨_, rfl, iff_of_true rfl HI.out, HW.out⟩
  · have hb : (((xs.length : Nat) : Int) != ((ys.length : Nat) : Int)) = true := by simp; omega
    have HL := hid hl
    clear hl
    go_enter Tryd.func23, Tryd.ntmps23
    go_wp2_with fail
    go_ret
    exact ⟨_, rfl, iff_of_false (by decide) (fun h => HL.out (congrArg List.length h)), Upd.refl _ _⟩
theorem pSameE_any {B B' C C' : Nat → Prop} (g h : Elm) (x y v u : Value) (w : World) (hx : RdE 12 EP w B x g.off) (hy : RdE 12 EP w B' y h.off) (hv : RdE 1 (E1 FXP) w C v g.l) (hu : RdE 1 (E1 FXP) w C' u h.l) (f1 : FitE g) (f2 : FitE h) :
    Calls Tryd.prog 9 #[.agg #[.int .i64 g.mo, .int .u8 g.ty, .int .u32 g.tb, x, v], .agg #[.int .i64 h.mo, .int .u8 h.ty, .int .u32 h.tb, y, u]] w (SameP (g = h) w) := by
  have HE := hid (fun w' (hn : New w w') => pSame8_any x y g.off h.off w' (hx.new EP.ok hn) (hy.new EP.ok hn) f1.1 f2.1)
  have HF := hid (fun w' (hn : New w w') => eqLL_any v u g.l h.l w' (hv.new (E1.ok FXP.ok) hn) (hu.new (E1.ok FXP.ok) hn) f1.2 f2.2)
  obtain ⟨a, c, rfl⟩ := hx.shape
  obtain ⟨a2, c2, rfl⟩ := hy.shape
  obtain ⟨a3, c3, rfl⟩ := hv.shape
  obtain ⟨a4, c4, rfl⟩ := hu.shape
  clear hx hy hv hu f1 f2
  have HN := hid (fun o o' => ((Upd.refl (fun _ => False) w).alloc o).alloc o')
  obtain ⟨mo, ty, tb, off, xs⟩ := g
  obtain ⟨mo', ty', tb', off', ys⟩ := h
  simp only at *
  go_enter Tryd.func9, Tryd.ntmps9
  go_wp2_with fail
  all_goals first
    | (go_ret
       refine ⟨false, rfl, ⟨(fun h => by cases h), (fun h => ?_)⟩, HN.out _ _⟩
       first | (injection h; contradiction) | (exfalso; simp_all))
    | skip
  refine (HE.out _ (HN.out _ _)).mono ?_
  rintro e w1 ⟨b, rfl, hb, hn1⟩
  have HB := hid hb
  have HN1 := hid (New.trans (HN.out _ _) hn1)
  clear hb HE
  have z0 : w1.cell? ⟨w.heap.size, 4, none⟩ = some (.slice a3 xs.length c3) := hn1.cell (by rw [box21]; rfl) (fun h => h)
  have z1 : w1.cell? ⟨w.heap.size + 1, 4, none⟩ = some (.slice a4 ys.length c4) := hn1.cell (by rw [box22]; rfl) (fun h => h)
  clear hn1
  cases b with
  | false =>
    have HB2 : Hid (¬ off = off') := fun h => Bool.noConfusion (HB.out.2 h)
    clear HB
    go_wp2_with fail
    go_ret
    exact ⟨_, rfl, iff_of_false (by decide) (fun h => HB2.out (by injection h)), HN1.out⟩
  | true =>
    have HB2 := hid (HB.out.1 rfl)
    clear HB
    go_wp2_with fail
    refine (HF.out _ HN1.out).mono ?_
    rintro e w2 ⟨b, rfl, hb, hn2⟩
    have HB := hid hb
    have HN2 := hid (New.trans HN1.out hn2)
    clear hb hn2 HF z0 z1
    go_wp2_with fail
    go_ret
    refine ⟨_, rfl, HB.out.trans ⟨fun h => ?_, fun h => by injection h⟩, HN2.out⟩
    have hx := HB2.out
    subst_vars
    rfl
def PneU (p q : Nat × Nat) : Prop := p ≠ q
theorem eqU_any {B B' : Nat → Prop} (x y : Value) (xs ys : List (Nat × Nat)) (w : World) (hx : RdE 2 EU w B x xs) (hy : RdE 2 EU w B' y ys) (h1 : xs.length ≤ 40) (_h2 : ys.length ≤ 40) :
    Calls Tryd.prog 24 #[x, y] w (SameP (xs = ys) w) := by
  obtain ⟨a, c, rfl, hcell⟩ := eu_at hx
  obtain ⟨a2, c2, rfl, hcell2⟩ := eu_at hy
  have hp : Tryd.prog.stoodInHeld 84 = false := by kernel_rfl
  have hg : Tryd.prog.eqGuardType Tryd.prog.depth 84 = false := by kernel_rfl
  have HX := hid hcell
  have HY := hid hcell2
  clear hx hy hcell hcell2
  by_cases hl : xs.length = ys.length
  · have hb : (((xs.length : Nat) : Int) != ((ys.length : Nat) : Int)) = false := by simp [hl]
    have HL := hid hl
    clear hl
    go_enter Tryd.func24, Tryd.ntmps24
    go_wp2_with fail
    go_loopw [13] (fun c wr => ∃ i : Nat, c = .int .i64 i ∧ i ≤ xs.length ∧ xs.take i = ys.take i ∧ New w wr) (fun c _ => xs.length - (intOf c).toNat)
    case atStart => exact ⟨0, rfl, by omega, by simp, Upd.refl _ _⟩
    case round =>
      obtain ⟨i, rfl, hi1, hi2, hnw⟩ := hrel
      by_cases hi : i < xs.length
      · have hi' : i < ys.length := by have := HL.out; omega
        obtain ⟨b, o, rfl, hc0, hc1⟩ := HX.out i hi
        obtain ⟨b2, o2, rfl, hd0, hd1⟩ := HY.out i hi'
        have q0 := hid hc0
        have q1 := hid hc1
        have r0 := hid hd0
        have r1 := hid hd1
        have hg1 : xs[i]? = some xs[i] := List.getElem?_eq_getElem hi
        have hg2 : ys[i]? = some ys[i] := List.getElem?_eq_getElem hi'
        clear hc0 hc1 hd0 hd1
        generalize hxe : xs[i] = p at *
        generalize hye : ys[i] = q at *
        have HG1 := hid hg1
        have HG2 := hid hg2
        have HI := hid hi2
        have HW := hid hnw
        clear hg1 hg2 hi2 hxe hye hnw
        obtain ⟨n, s⟩ := p
        obtain ⟨m, t⟩ := q
        have hn : New w wr.drew := HW.out.drew
        by_cases hpq : n = m ∧ s = t
        · obtain ⟨rfl, rfl⟩ := hpq
          go_wp2_with fail
          refine wp_region_noPanic ?_
          refine wp_region_held_drew (S := (New w)) (by kernel_rfl) (by first | exact hn | exact (Upd.refl _ _).drew | exact Upd.drew (by assumption)) (fun hn => ?_)
          generalize wr.drew = wd at *
          refine wpAnyH_take (i := 0) (oi := { dst := some 16, op := Op.move (Operand.tmp 0), type := 67, pos := "slices.go:25", after := #[], guard := none }) (v := ?v38x1) rfl (by kernel_rfl) (by kernel_rfl) (by kernel_rfl) (fun _ _ _ h => h) (Or.inl ⟨by rfl, ?y38x1⟩) hn ?r38x1
          case y38x1 => (intro wS hS; (try go_simp); (try with_reducible rfl))
          try simp only [Act.put, List.setIfInBounds_toArray, List.set_cons_zero, List.set_cons_succ]
          refine wpAnyH_take (i := 1) (oi := { dst := some 17, op := Op.move (Operand.tmp 5), type := 3, pos := "slices.go:25", after := #[], guard := none }) (v := ?v38x2) rfl (by kernel_rfl) (by kernel_rfl) (by kernel_rfl) (fun _ _ _ h => h) (Or.inl ⟨by rfl, ?y38x2⟩) hn ?r38x2
          case y38x2 => (intro wS hS; (try go_simp); (try with_reducible rfl))
          try simp only [Act.put, List.setIfInBounds_toArray, List.set_cons_zero, List.set_cons_succ]
          refine wpAnyH_take (i := 2) (oi := { dst := some 18, op := Op.indexAddr 67 (Operand.tmp 16) (Operand.tmp 17), type := 0, pos := "slices.go:25", after := #[{ on := 0, ground := Ground.data }, { on := 1, ground := Ground.data }], guard := none }) (v := ?v38x3) rfl (by kernel_rfl) (by kernel_rfl) (by kernel_rfl) (fun _ _ _ h => h) (Or.inl ⟨by rfl, ?y38x3⟩) hn ?r38x3
          case y38x3 => (intro wS hS; (try go_simp); (try with_reducible rfl))
          try simp only [Act.put, List.setIfInBounds_toArray, List.set_cons_zero, List.set_cons_succ]
          refine wpAnyH_take (i := 3) (oi := { dst := some 19, op := Op.load 84 (Operand.tmp 18), type := 84, pos := "slices.go:25", after := #[{ on := 2, ground := Ground.data }], guard := none }) (v := ?v38x4) rfl (by kernel_rfl) (by kernel_rfl) (by kernel_rfl) (fun _ _ _ h => h) (Or.inl ⟨by rfl, ?y38x4⟩) hn ?r38x4
          case y38x4 => (intro wS hS; have c0 := hS.cell q0.out (fun h => h); have c1 := hS.cell q1.out (fun h => h); (try go_simp); (try with_reducible rfl))
          try simp only [Act.put, List.setIfInBounds_toArray, List.set_cons_zero, List.set_cons_succ]
          refine wpAnyH_take (i := 4) (oi := { dst := some 20, op := Op.move (Operand.tmp 1), type := 67, pos := "slices.go:25", after := #[], guard := none }) (v := ?v38x5) rfl (by kernel_rfl) (by kernel_rfl) (by kernel_rfl) (fun _ _ _ h => h) (Or.inl ⟨by rfl, ?y38x5⟩) hn ?r38x5
          case y38x5 => (intro wS hS; (try go_simp); (try with_reducible rfl))
          try simp only [Act.put, List.setIfInBounds_toArray, List.set_cons_zero, List.set_cons_succ]
          refine wpAnyH_take (i := 5) (oi := { dst := some 21, op := Op.move (Operand.tmp 5), type := 3, pos := "slices.go:25", after := #[], guard := none }) (v := ?v38x6) rfl (by kernel_rfl) (by kernel_rfl) (by kernel_rfl) (fun _ _ _ h => h) (Or.inl ⟨by rfl, ?y38x6⟩) hn ?r38x6
          case y38x6 => (intro wS hS; (try go_simp); (try with_reducible rfl))
          try simp only [Act.put, List.setIfInBounds_toArray, List.set_cons_zero, List.set_cons_succ]
          refine wpAnyH_take (i := 6) (oi := { dst := some 22, op := Op.indexAddr 67 (Operand.tmp 20) (Operand.tmp 21), type := 0, pos := "slices.go:25", after := #[{ on := 4, ground := Ground.data }, { on := 5, ground := Ground.data }], guard := none }) (v := ?v38x7) rfl (by kernel_rfl) (by kernel_rfl) (by kernel_rfl) (fun _ _ _ h => h) (Or.inl ⟨by rfl, ?y38x7⟩) hn ?r38x7
          case y38x7 => (intro wS hS; (try go_simp); (try with_reducible rfl))
          try simp only [Act.put, List.setIfInBounds_toArray, List.set_cons_zero, List.set_cons_succ]
          refine wpAnyH_take (i := 7) (oi := { dst := some 23, op := Op.load 84 (Operand.tmp 22), type := 84, pos := "slices.go:25", after := #[{ on := 6, ground := Ground.data }], guard := none }) (v := ?v38x8) rfl (by kernel_rfl) (by kernel_rfl) (by kernel_rfl) (fun _ _ _ h => h) (Or.inl ⟨by rfl, ?y38x8⟩) hn ?r38x8
          case y38x8 => (intro wS hS; have c0 := hS.cell r0.out (fun h => h); have c1 := hS.cell r1.out (fun h => h); (try go_simp); (try with_reducible rfl))
          try simp only [Act.put, List.setIfInBounds_toArray, List.set_cons_zero, List.set_cons_succ]
          refine wpAnyH_take (i := 8) (oi := { dst := some 24, op := Op.binOp BinOp.neq 84 (Operand.tmp 19) (Operand.tmp 23) 84, type := 4, pos := "slices.go:25", after := #[{ on := 3, ground := Ground.data }, { on := 7, ground := Ground.data }], guard := none }) (v := ?v38x9) rfl (by kernel_rfl) (by kernel_rfl) (by kernel_rfl) (fun _ _ _ h => h) (Or.inl ⟨by rfl, ?y38x9⟩) hn ?r38x9
          case y38x9 => (intro wS hS; go_simp; (try go_simp); (try with_reducible rfl))
          try simp only [Act.put, List.setIfInBounds_toArray, List.set_cons_zero, List.set_cons_succ]
          refine wpAnyH_done (by kernel_rfl) ?_ _
          refine NoPanic.normal ?_
          have HH := hid hn
          clear hn
          go_wp2_with fail
          go_roundw
          case rel => exact ⟨i + 1, by go_num, by omega, take_eq_step HI.out HG1.out HG2.out, HH.out⟩
          case measure => (simp [intOf]; omega)
        · have HP : PneU (n, s) (m, t) := fun e => hpq (Prod.mk.inj e)
          by_cases hnm : n = m
          · subst hnm
            have hs1 : ((s : Int) = (t : Int)) = False := eq_false (by omega)
            have hs2 : (s = t) = False := eq_false (by omega)
            clear hpq
            go_wp2_with fail
            refine wp_region_noPanic ?_
            refine wp_region_held_drew (S := (New w)) (by kernel_rfl) (by first | exact hn | exact (Upd.refl _ _).drew | exact Upd.drew (by assumption)) (fun hn => ?_)
            generalize wr.drew = wd at *
            refine wpAnyH_take (i := 0) (oi := { dst := some 16, op := Op.move (Operand.tmp 0), type := 67, pos := "slices.go:25", after := #[], guard := none }) (v := ?v39x1) rfl (by kernel_rfl) (by kernel_rfl) (by kernel_rfl) (fun _ _ _ h => h) (Or.inl ⟨by rfl, ?y39x1⟩) hn ?r39x1
            case y39x1 => (intro wS hS; (try go_simp); (try with_reducible rfl))
            try simp only [Act.put, List.setIfInBounds_toArray, List.set_cons_zero, List.set_cons_succ]
            refine wpAnyH_take (i := 1) (oi := { dst := some 17, op := Op.move (Operand.tmp 5), type := 3, pos := "slices.go:25", after := #[], guard := none }) (v := ?v39x2) rfl (by kernel_rfl) (by kernel_rfl) (by kernel_rfl) (fun _ _ _ h => h) (Or.inl ⟨by rfl, ?y39x2⟩) hn ?r39x2
            case y39x2 => (intro wS hS; (try go_simp); (try with_reducible rfl))
            try simp only [Act.put, List.setIfInBounds_toArray, List.set_cons_zero, List.set_cons_succ]
            refine wpAnyH_take (i := 2) (oi := { dst := some 18, op := Op.indexAddr 67 (Operand.tmp 16) (Operand.tmp 17), type := 0, pos := "slices.go:25", after := #[{ on := 0, ground := Ground.data }, { on := 1, ground := Ground.data }], guard := none }) (v := ?v39x3) rfl (by kernel_rfl) (by kernel_rfl) (by kernel_rfl) (fun _ _ _ h => h) (Or.inl ⟨by rfl, ?y39x3⟩) hn ?r39x3
            case y39x3 => (intro wS hS; (try go_simp); (try with_reducible rfl))
            try simp only [Act.put, List.setIfInBounds_toArray, List.set_cons_zero, List.set_cons_succ]
            refine wpAnyH_take (i := 3) (oi := { dst := some 19, op := Op.load 84 (Operand.tmp 18), type := 84, pos := "slices.go:25", after := #[{ on := 2, ground := Ground.data }], guard := none }) (v := ?v39x4) rfl (by kernel_rfl) (by kernel_rfl) (by kernel_rfl) (fun _ _ _ h => h) (Or.inl ⟨by rfl, ?y39x4⟩) hn ?r39x4
            case y39x4 => (intro wS hS; have c0 := hS.cell q0.out (fun h => h); have c1 := hS.cell q1.out (fun h => h); (try go_simp); (try with_reducible rfl))
            try simp only [Act.put, List.setIfInBounds_toArray, List.set_cons_zero, List.set_cons_succ]
            refine wpAnyH_take (i := 4) (oi := { dst := some 20, op := Op.move (Operand.tmp 1), type := 67, pos := "slices.go:25", after := #[], guard := none }) (v := ?v39x5) rfl (by kernel_rfl) (by kernel_rfl) (by kernel_rfl) (fun _ _ _ h => h) (Or.inl ⟨by rfl, ?y39x5⟩) hn ?r39x5
            case y39x5 => (intro wS hS; (try go_simp); (try with_reducible rfl))
            try simp only [Act.put, List.setIfInBounds_toArray, List.set_cons_zero, List.set_cons_succ]
            refine wpAnyH_take (i := 5) (oi := { dst := some 21, op := Op.move (Operand.tmp 5), type := 3, pos := "slices.go:25", after := #[], guard := none }) (v := ?v39x6) rfl (by kernel_rfl) (by kernel_rfl) (by kernel_rfl) (fun _ _ _ h => h) (Or.inl ⟨by rfl, ?y39x6⟩) hn ?r39x6
            case y39x6 => (intro wS hS; (try go_simp); (try with_reducible rfl))
            try simp only [Act.put, List.setIfInBounds_toArray, List.set_cons_zero, List.set_cons_succ]
            refine wpAnyH_take (i := 6) (oi := { dst := some 22, op := Op.indexAddr 67 (Operand.tmp 20) (Operand.tmp 21), type := 0, pos := "slices.go:25", after := #[{ on := 4, ground := Ground.data }, { on := 5, ground := Ground.data }], guard := none }) (v := ?v39x7) rfl (by kernel_rfl) (by kernel_rfl) (by kernel_rfl) (fun _ _ _ h => h) (Or.inl ⟨by rfl, ?y39x7⟩) hn ?r39x7
            case y39x7 => (intro wS hS; (try go_simp); (try with_reducible rfl))
            try simp only [Act.put, List.setIfInBounds_toArray, List.set_cons_zero, List.set_cons_succ]
            refine wpAnyH_take (i := 7) (oi := { dst := some 23, op := Op.load 84 (Operand.tmp 22), type := 84, pos := "slices.go:25", after := #[{ on := 6, ground := Ground.data }], guard := none }) (v := ?v39x8) rfl (by kernel_rfl) (by kernel_rfl) (by kernel_rfl) (fun _ _ _ h => h) (Or.inl ⟨by rfl, ?y39x8⟩) hn ?r39x8
            case y39x8 => (intro wS hS; have c0 := hS.cell r0.out (fun h => h); have c1 := hS.cell r1.out (fun h => h); (try go_simp); (try with_reducible rfl))
            try simp only [Act.put, List.setIfInBounds_toArray, List.set_cons_zero, List.set_cons_succ]
            refine wpAnyH_take (i := 8) (oi := { dst := some 24, op := Op.binOp BinOp.neq 84 (Operand.tmp 19) (Operand.tmp 23) 84, type := 4, pos := "slices.go:25", after := #[{ on := 3, ground := Ground.data }, { on := 7, ground := Ground.data }], guard := none }) (v := ?v39x9) rfl (by kernel_rfl) (by kernel_rfl) (by kernel_rfl) (fun _ _ _ h => h) (Or.inl ⟨by rfl, ?y39x9⟩) hn ?r39x9
            case y39x9 => (intro wS hS; go_simp; (try go_simp); (try with_reducible rfl))
            try simp only [Act.put, List.setIfInBounds_toArray, List.set_cons_zero, List.set_cons_succ]
            refine wpAnyH_done (by kernel_rfl) ?_ _
            refine NoPanic.normal ?_
            have HH := hid hn
            clear hn
            go_wp2_with fail
            go_ret
            exact ⟨_, rfl, iff_of_false (by decide) (get_ne HG1.out HG2.out HP), HH.out⟩
          · have hs1 : ((n : Int) = (m : Int)) = False := eq_false (by omega)
            have hs2 : (n = m) = False := eq_false hnm
            clear hpq hnm
            go_wp2_with fail
            refine wp_region_noPanic ?_
            refine wp_region_held_drew (S := (New w)) (by kernel_rfl) (by first | exact hn | exact (Upd.refl _ _).drew | exact Upd.drew (by assumption)) (fun hn => ?_)
            generalize wr.drew = wd at *
            refine wpAnyH_take (i := 0) (oi := { dst := some 16, op := Op.move (Operand.tmp 0), type := 67, pos := "slices.go:25", after := #[], guard := none }) (v := ?v40x1) rfl (by kernel_rfl) (by kernel_rfl) (by kernel_rfl) (fun _ _ _ h => h) (Or.inl ⟨by rfl, ?y40x1⟩) hn ?r40x1
            case y40x1 => (intro wS hS; (try go_simp); (try with_reducible rfl))
            try simp only [Act.put, List.setIfInBounds_toArray, List.set_cons_zero, List.set_cons_succ]
            refine wpAnyH_take (i := 1) (oi := { dst := some 17, op := Op.move (Operand.tmp 5), type := 3, pos := "slices.go:25", after := #[], guard := none }) (v := ?v40x2) rfl (by kernel_rfl) (by kernel_rfl) (by kernel_rfl) (fun _ _ _ h => h) (Or.inl ⟨by rfl, ?y40x2⟩) hn ?r40x2
            case y40x2 => (intro wS hS; (try go_simp); (try with_reducible rfl))
            try simp only [Act.put, List.setIfInBounds_toArray, List.set_cons_zero, List.set_cons_succ]
            refine wpAnyH_take (i := 2) (oi := { dst := some 18, op := Op.indexAddr 67 (Operand.tmp 16) (Operand.tmp 17), type := 0, pos := "slices.go:25", after := #[{ on := 0, ground := Ground.data }, { on := 1, ground := Ground.data }], guard := none }) (v := ?v40x3) rfl (by kernel_rfl) (by kernel_rfl) (by kernel_rfl) (fun _ _ _ h => h) (Or.inl ⟨by rfl, ?y40x3⟩) hn ?r40x3
            case y40x3 => (intro wS hS; (try go_simp); (try with_reducible rfl))
            try simp only [Act.put, List.setIfInBounds_toArray, List.set_cons_zero, List.set_cons_succ]
            refine wpAnyH_take (i := 3) (oi := { dst := some 19, op := Op.load 84 (Operand.tmp 18), type := 84, pos := "slices.go:25", after := #[{ on := 2, ground := Ground.data }], guard := none }) (v := ?v40x4) rfl (by kernel_rfl) (by kernel_rfl) (by kernel_rfl) (fun _ _ _ h => h) (Or.inl ⟨by rfl, ?y40x4⟩) hn ?r40x4
            case y40x4 => (intro wS hS; have c0 := hS.cell q0.out (fun h => h); have c1 := hS.cell q1.out (fun h => h); (try go_simp); (try with_reducible rfl))
            try simp only [Act.put, List.setIfInBounds_toArray, List.set_cons_zero, List.set_cons_succ]
            refine wpAnyH_take (i := 4) (oi := { dst := some 20, op := Op.move (Operand.tmp 1), type := 67, pos := "slices.go:25", after := #[], guard := none }) (v := ?v40x5) rfl (by kernel_rfl) (by kernel_rfl) (by kernel_rfl) (fun _ _ _ h => h) (Or.inl ⟨by rfl, ?y40x5⟩) hn ?r40x5
            case y40x5 => (intro wS hS; (try go_simp); (try with_reducible rfl))
            try simp only [Act.put, List.setIfInBounds_toArray, List.set_cons_zero, List.set_cons_succ]
            refine wpAnyH_take (i := 5) (oi := { dst := some 21, op := Op.move (Operand.tmp 5), type := 3, pos := "slices.go:25", after := #[], guard := none }) (v := ?v40x6) rfl (by kernel_rfl) (by kernel_rfl) (by kernel_rfl) (fun _ _ _ h => h) (Or.inl ⟨by rfl, ?y40x6⟩) hn ?r40x6
            case y40x6 => (intro wS hS; (try go_simp); (try with_reducible rfl))
            try simp only [Act.put, List.setIfInBounds_toArray, List.set_cons_zero, List.set_cons_succ]
            refine wpAnyH_take (i := 6) (oi := { dst := some 22, op := Op.indexAddr 67 (Operand.tmp 20) (Operand.tmp 21), type := 0, pos := "slices.go:25", after := #[{ on := 4, ground := Ground.data }, { on := 5, ground := Ground.data }], guard := none }) (v := ?v40x7) rfl (by kernel_rfl) (by kernel_rfl) (by kernel_rfl) (fun _ _ _ h => h) (Or.inl ⟨by rfl, ?y40x7⟩) hn ?r40x7
            case y40x7 => (intro wS hS; (try go_simp); (try with_reducible rfl))
            try simp only [Act.put, List.setIfInBounds_toArray, List.set_cons_zero, List.set_cons_succ]
            refine wpAnyH_take (i := 7) (oi := { dst := some 23, op := Op.load 84 (Operand.tmp 22), type := 84, pos := "slices.go:25", after := #[{ on := 6, ground := Ground.data }], guard := none }) (v := ?v40x8) rfl (by kernel_rfl) (by kernel_rfl) (by kernel_rfl) (fun _ _ _ h => h) (Or.inl ⟨by rfl, ?y40x8⟩) hn ?r40x8
            case y40x8 => (intro wS hS; have c0 := hS.cell r0.out (fun h => h); have c1 := hS.cell r1.out (fun h => h); (try go_simp); (try with_reducible rfl))
            try simp only [Act.put, List.setIfInBounds_toArray, List.set_cons_zero, List.set_cons_succ]
            refine wpAnyH_take (i := 8) (oi := { dst := some 24, op := Op.binOp BinOp.neq 84 (Operand.tmp 19) (Operand.tmp 23) 84, type := 4, pos := "slices.go:25", after := #[{ on := 3, ground := Ground.data }, { on := 7, ground := Ground.data }], guard := none }) (v := ?v40x9) rfl (by kernel_rfl) (by kernel_rfl) (by kernel_rfl) (fun _ _ _ h => h) (Or.inl ⟨by rfl, ?y40x9⟩) hn ?r40x9
            case y40x9 => (intro wS hS; go_simp; (try go_simp); (try with_reducible rfl))
            try simp only [Act.put, List.setIfInBounds_toArray, List.set_cons_zero, List.set_cons_succ]
            refine wpAnyH_done (by kernel_rfl) ?_ _
            refine NoPanic.normal ?_
            have HH := hid hn
            clear hn
            go_wp2_with fail
            go_ret
            exact ⟨_, rfl, iff_of_false (by decide) (get_ne HG1.out HG2.out HP), HH.out⟩
      · have e : i = xs.length := by omega
        subst e
        have HI : Hid (xs = ys) := take_all HL.out hi2
        clear hi2
        have HW := hid hnw
        clear hnw
        go_wp2_with fail
        go_ret
        exact ⟨_, rfl, iff_of_true rfl HI.out, HW.out⟩
  · have hb : (((xs.length : Nat) : Int) != ((ys.length : Nat) : Int)) = true := by simp; omega
    have HL := hid hl
    clear hl
    go_enter Tryd.func24, Tryd.ntmps24
    go_wp2_with fail
    go_ret
    exact ⟨_, rfl, iff_of_false (by decide) (fun h => HL.out (congrArg List.length h)), Upd.refl _ _⟩
theorem pSameC_any {B B' C C' : Nat → Prop} (g h : Cod) (x y v u : Value) (w : World) (hx : RdE 2 EU w B x g.ls) (hy : RdE 2 EU w B' y h.ls) (hv : RdE 12 EP w C v g.b) (hu : RdE 12 EP w C' u h.b) (f1 : FitC g) (f2 : FitC h) :
    Calls Tryd.prog 15 #[.agg #[x, v], .agg #[y, u]] w (SameP (g = h) w) := by
  have HE := hid (fun w' (hn : New w w') => eqU_any x y g.ls h.ls w' (hx.new EU.ok hn) (hy.new EU.ok hn) f1.1 f2.1)
  have HF := hid (fun w' (hn : New w w') => pSame8_any v u g.b h.b w' (hv.new EP.ok hn) (hu.new EP.ok hn) f1.2 f2.2)
  obtain ⟨a, c, rfl⟩ := hx.shape
  obtain ⟨a2, c2, rfl⟩ := hy.shape
  obtain ⟨a3, c3, rfl⟩ := hv.shape
  obtain ⟨a4, c4, rfl⟩ := hu.shape
  clear hx hy hv hu f1 f2
  have HN := hid (fun o o' => ((Upd.refl (fun _ => False) w).alloc o).alloc o')
  obtain ⟨ls, xs⟩ := g
  obtain ⟨ls', ys⟩ := h
  simp only at *
  go_enter Tryd.func15, Tryd.ntmps15
  go_wp2_with fail
  refine (HE.out _ (HN.out _ _)).mono ?_
  rintro e w1 ⟨b, rfl, hb, hn1⟩
  have HB := hid hb
  have HN1 := hid (New.trans (HN.out _ _) hn1)
  clear hb HE
  have z0 : w1.cell? ⟨w.heap.size, 1, none⟩ = some (.slice a3 xs.length c3) := hn1.cell (by rw [box21]; rfl) (fun h => h)
  have z1 : w1.cell? ⟨w.heap.size + 1, 1, none⟩ = some (.slice a4 ys.length c4) := hn1.cell (by rw [box22]; rfl) (fun h => h)
  clear hn1
  cases b with
  | false =>
    have HB2 : Hid (¬ ls = ls') := fun h => Bool.noConfusion (HB.out.2 h)
    clear HB
    go_wp2_with fail
    go_ret
    exact ⟨_, rfl, iff_of_false (by decide) (fun h => HB2.out (by injection h)), HN1.out⟩
  | true =>
    have HB2 := hid (HB.out.1 rfl)
    clear HB
    go_wp2_with fail
    refine (HF.out _ HN1.out).mono ?_
    rintro e w2 ⟨b, rfl, hb, hn2⟩
    have HB := hid hb
    have HN2 := hid (New.trans HN1.out hn2)
    clear hb hn2 HF z0 z1
    go_wp2_with fail
    go_ret
    refine ⟨_, rfl, HB.out.trans ⟨fun h => ?_, fun h => by injection h⟩, HN2.out⟩
    rw [h, HB2.out]
end Go.Proofs.YtbllpajibhiobaaDoor

namespace Go.Proofs.YtbllpajibhiobaaDoor
open Go.RowKit Go.Proofs.Leb Go.Proofs.Own
set_option maxRecDepth 100000
set_option maxHeartbeats 8000000

/-- two boxes of what came in -/
def Bx2 (w : World) (c1 : Array Value) (T1 : TypeId) (c2 : Array Value) (T2 : TypeId) (w' : World) : Prop := New w w' ∧ w'.heap[w.heap.size]? = some (.cells c1 T1) ∧ w'.heap[w.heap.size + 1]? = some (.cells c2 T2)
theorem Bx2.mk0 {w : World} {c1 c2 : Array Value} {T1 T2 : TypeId} : Bx2 w c1 T1 c2 T2 ((w.alloc (.cells c1 T1)).alloc (.cells c2 T2)) := ⟨((Upd.refl _ _).alloc _).alloc _, hp_old (by simp) (hp_new rfl), hp_new (by simp)⟩
theorem Bx2.new {w a b : World} {c1 c2 : Array Value} {T1 T2 : TypeId} (h : Bx2 w c1 T1 c2 T2 a) (k : New a b) : Bx2 w c1 T1 c2 T2 b := ⟨New.trans h.1 k, hp1 h.2.1 k, hp1 h.2.2 k⟩
theorem Bx2.at1 {w a : World} {c1 c2 : Array Value} {T1 T2 : TypeId} (h : Bx2 w c1 T1 c2 T2 a) (i : Nat) {v : Value} (hv : c1[i]? = some v) : a.cell? ⟨w.heap.size, i, none⟩ = some v := cellAt h.2.1 i hv
theorem Bx2.at2 {w a : World} {c1 c2 : Array Value} {T1 T2 : TypeId} (h : Bx2 w c1 T1 c2 T2 a) (i : Nat) {v : Value} (hv : c2[i]? = some v) : a.cell? ⟨w.heap.size + 1, i, none⟩ = some v := cellAt h.2.2 i hv

theorem rSameE_any {B B' C C' : Nat → Prop} (g h : Elm) (x y v u : Value) (w : World) (hx : RdE 12 ER w B x g.off) (hy : RdE 12 ER w B' y h.off) (hv : RdE 1 (E1 FXR) w C v g.l) (hu : RdE 1 (E1 FXR) w C' u h.l) (f1 : FitE g) (f2 : FitE h) :
    Calls Tryd.prog 10 #[.agg #[.int .i64 g.mo, .int .u8 g.ty, .int .u32 g.tb, x, v], .agg #[.int .i64 h.mo, .int .u8 h.ty, .int .u32 h.tb, y, u]] w (SameP (g = h) w) := by
  have HE := hid (fun w' (hn : New w w') => rSame8_any x y g.off h.off w' (hx.new ER.ok hn) (hy.new ER.ok hn) f1.1 f2.1)
  obtain ⟨a, c, rfl⟩ := hx.shape
  obtain ⟨a2, c2, rfl⟩ := hy.shape
  obtain ⟨a3, c3, rfl, hcell⟩ := e1_at hv
  obtain ⟨a4, c4, rfl, hcell2⟩ := e1_at hu
  have HX := hid hcell
  have HY := hid hcell2
  have l1 := f1.2.1
  have l2 := f2.2.1
  have H1 := hid f1.2.2
  have H2 := hid f2.2.2
  clear hx hy hv hu f1 f2 hcell hcell2
  obtain ⟨mo, ty, tb, off, xs⟩ := g
  obtain ⟨mo', ty', tb', off', ys⟩ := h
  have HN := hid (fun o o' => ((Upd.refl (fun _ => False) w).alloc o).alloc o')
  simp only at *
  have HW : Hid (Bx2 w #[.int .i64 mo, .int .u8 ty, .int .u32 tb, .slice a off.length c, .slice a3 xs.length c3] 38 #[.int .i64 mo', .int .u8 ty', .int .u32 tb', .slice a2 off'.length c2, .slice a4 ys.length c4] 38
    ((w.alloc (.cells #[.int .i64 mo, .int .u8 ty, .int .u32 tb, .slice a off.length c, .slice a3 xs.length c3] 38)).alloc (.cells #[.int .i64 mo', .int .u8 ty', .int .u32 tb', .slice a2 off'.length c2, .slice a4 ys.length c4] 38))) := Bx2.mk0
  go_enter Tryd.func10, Tryd.ntmps10
  go_wp2_with fail
  all_goals first
    | (go_ret
       refine ⟨false, rfl, ⟨(fun h => by cases h), (fun h => ?_)⟩, HN.out _ _⟩
       first | (injection h; contradiction) | (exfalso; simp_all))
    | skip
  subst_vars
  generalize (w.alloc (.cells #[.int .i64 _, .int .u8 _, .int .u32 _, .slice a off.length c, .slice a3 xs.length c3] 38)).alloc (.cells #[.int .i64 _, .int .u8 _, .int .u32 _, .slice a2 off'.length c2, .slice a4 ys.length c4] 38) = w0 at *
  refine (HE.out _ HW.out.1).mono ?_
  rintro e w1 ⟨b, rfl, hb, hn1⟩
  have HW1 := hid (HW.out.new hn1)
  have HB := hid hb
  have z0 := HW1.out.at1 4 (v := .slice a3 xs.length c3) rfl
  have z1 := HW1.out.at2 4 (v := .slice a4 ys.length c4) rfl
  clear hb hn1 HE
  cases b with
  | false =>
    have HB2 : Hid (¬ off = off') := fun h => Bool.noConfusion (HB.out.2 h)
    clear HB
    go_wp2_with fail
    go_ret
    exact ⟨_, rfl, iff_of_false (by decide) (fun h => HB2.out (by injection h)), HW1.out.1⟩
  | true =>
  have HB2 := hid (HB.out.1 rfl)
  clear HB
  by_cases hl : xs.length = ys.length
  · have hb : (((xs.length : Nat) : Int) != ((ys.length : Nat) : Int)) = false := by simp [hl]
    have HL := hid hl
    clear hl
    go_wp2_with fail
    clear z0 z1
    go_loopw [5] (fun c wr => ∃ i : Nat, c = .int .i64 i ∧ i ≤ xs.length ∧ xs.take i = ys.take i ∧ New w1 wr) (fun c _ => xs.length - (intOf c).toNat)
    case atStart => exact ⟨0, rfl, by omega, by simp, Upd.refl _ _⟩
    case round =>
      obtain ⟨i, rfl, hi1, hi2, hnw⟩ := hrel
      have hbx := HW1.out.new hnw
      have z0 := hbx.at1 4 (v := .slice a3 xs.length c3) rfl
      have z1 := hbx.at2 4 (v := .slice a4 ys.length c4) rfl
      by_cases hi : i < xs.length
      · have hi' : i < ys.length := by have := HL.out; omega
        obtain ⟨b, o, u, rfl, hc, hu⟩ := HX.out i hi
        obtain ⟨b2, o2, v, rfl, hd, hv⟩ := HY.out i hi'
        have HC : Hid (∀ w', New w w' → Calls Tryd.prog 22 #[u, v] w' (SameP (xs[i] = ys[i]) w')) := fun w' hn =>
          rSame8_any u v _ _ w' (RdE.new ER.ok hu hn) (RdE.new ER.ok hv hn) (H1.out _ (List.getElem_mem hi)) (H2.out _ (List.getElem_mem hi'))
        have HG1 : Hid (xs[i]? = some xs[i]) := List.getElem?_eq_getElem hi
        have HG2 : Hid (ys[i]? = some ys[i]) := List.getElem?_eq_getElem hi'
        have HI := hid hi2
        have HCX := hid hc
        have HCY := hid hd
        obtain ⟨ua, uc, rfl⟩ : ∃ a c, u = .slice a xs[i].length c := RdE.shape hu
        obtain ⟨va, vc, rfl⟩ : ∃ a c, v = .slice a ys[i].length c := RdE.shape hv
        have hn := hbx.new (Upd.refl _ wr).drew
        have hnr : New w1 wr.drew := hnw.drew
        clear hc hd hi2 hnw hu hv hbx
        generalize xs[i] = P at *
        generalize ys[i] = Q at *
        go_wp2_with fail
        clear z0 z1
        refine wp_region_noPanic ?_
        refine wp_region_held_drew (S := (Bx2 w #[.int .i64 mo', .int .u8 ty', .int .u32 tb', .slice a off.length c, .slice (some ⟨b, o, none⟩) xs.length c3] 38 #[.int .i64 mo', .int .u8 ty', .int .u32 tb', .slice a2 off'.length c2, .slice (some ⟨b2, o2, none⟩) ys.length c4] 38)) (by kernel_rfl) (by first | exact hn | exact (Upd.refl _ _).drew | exact Upd.drew (by assumption)) (fun hn => ?_)
        generalize wr.drew = wd at *
        refine wpAnyH_take (i := 0) (oi := { dst := some 49, op := Op.fieldAddr 38 (Operand.tmp 2) 4, type := 0, pos := "ref.go:136", after := #[], guard := none }) (v := ?v41x1) rfl (by kernel_rfl) (by kernel_rfl) (by kernel_rfl) (fun _ _ _ h => h) (Or.inl ⟨by rfl, ?y41x1⟩) hn ?r41x1
        case y41x1 => (intro wS hS; (try go_simp); (try with_reducible rfl))
        try simp only [Act.put, List.setIfInBounds_toArray, List.set_cons_zero, List.set_cons_succ]
        refine wpAnyH_take (i := 1) (oi := { dst := some 50, op := Op.load 36 (Operand.tmp 49), type := 36, pos := "ref.go:136", after := #[{ on := 0, ground := Ground.data }], guard := none }) (v := ?v41x2) rfl (by kernel_rfl) (by kernel_rfl) (by kernel_rfl) (fun _ _ _ h => h) (Or.inl ⟨by rfl, ?y41x2⟩) hn ?r41x2
        case y41x2 => (intro wS hS; have c0 := hS.at1 4 (v := .slice (some ⟨b, o, none⟩) xs.length c3) rfl; (try go_simp); (try with_reducible rfl))
        try simp only [Act.put, List.setIfInBounds_toArray, List.set_cons_zero, List.set_cons_succ]
        refine wpAnyH_take (i := 2) (oi := { dst := some 51, op := Op.move (Operand.tmp 5), type := 3, pos := "ref.go:136", after := #[], guard := none }) (v := ?v41x3) rfl (by kernel_rfl) (by kernel_rfl) (by kernel_rfl) (fun _ _ _ h => h) (Or.inl ⟨by rfl, ?y41x3⟩) hn ?r41x3
        case y41x3 => (intro wS hS; (try go_simp); (try with_reducible rfl))
        try simp only [Act.put, List.setIfInBounds_toArray, List.set_cons_zero, List.set_cons_succ]
        refine wpAnyH_take (i := 3) (oi := { dst := some 52, op := Op.indexAddr 36 (Operand.tmp 50) (Operand.tmp 51), type := 0, pos := "ref.go:136", after := #[{ on := 1, ground := Ground.data }, { on := 2, ground := Ground.data }], guard := none }) (v := ?v41x4) rfl (by kernel_rfl) (by kernel_rfl) (by kernel_rfl) (fun _ _ _ h => h) (Or.inl ⟨by rfl, ?y41x4⟩) hn ?r41x4
        case y41x4 => (intro wS hS; (try go_simp); (try with_reducible rfl))
        try simp only [Act.put, List.setIfInBounds_toArray, List.set_cons_zero, List.set_cons_succ]
        refine wpAnyH_take (i := 4) (oi := { dst := some 53, op := Op.load 33 (Operand.tmp 52), type := 33, pos := "ref.go:136", after := #[{ on := 3, ground := Ground.data }], guard := none }) (v := ?v41x5) rfl (by kernel_rfl) (by kernel_rfl) (by kernel_rfl) (fun _ _ _ h => h) (Or.inl ⟨by rfl, ?y41x5⟩) hn ?r41x5
        case y41x5 => (intro wS hS; have c0 := hS.1.cell HCX.out (fun h => h); (try go_simp); (try with_reducible rfl))
        try simp only [Act.put, List.setIfInBounds_toArray, List.set_cons_zero, List.set_cons_succ]
        refine wpAnyH_take (i := 5) (oi := { dst := some 54, op := Op.fieldAddr 38 (Operand.tmp 3) 4, type := 0, pos := "ref.go:136", after := #[], guard := none }) (v := ?v41x6) rfl (by kernel_rfl) (by kernel_rfl) (by kernel_rfl) (fun _ _ _ h => h) (Or.inl ⟨by rfl, ?y41x6⟩) hn ?r41x6
        case y41x6 => (intro wS hS; (try go_simp); (try with_reducible rfl))
        try simp only [Act.put, List.setIfInBounds_toArray, List.set_cons_zero, List.set_cons_succ]
        refine wpAnyH_take (i := 6) (oi := { dst := some 55, op := Op.load 36 (Operand.tmp 54), type := 36, pos := "ref.go:136", after := #[{ on := 5, ground := Ground.data }], guard := none }) (v := ?v41x7) rfl (by kernel_rfl) (by kernel_rfl) (by kernel_rfl) (fun _ _ _ h => h) (Or.inl ⟨by rfl, ?y41x7⟩) hn ?r41x7
        case y41x7 => (intro wS hS; have c0 := hS.at2 4 (v := .slice (some ⟨b2, o2, none⟩) ys.length c4) rfl; (try go_simp); (try with_reducible rfl))
        try simp only [Act.put, List.setIfInBounds_toArray, List.set_cons_zero, List.set_cons_succ]
        refine wpAnyH_take (i := 7) (oi := { dst := some 56, op := Op.move (Operand.tmp 5), type := 3, pos := "ref.go:136", after := #[], guard := none }) (v := ?v41x8) rfl (by kernel_rfl) (by kernel_rfl) (by kernel_rfl) (fun _ _ _ h => h) (Or.inl ⟨by rfl, ?y41x8⟩) hn ?r41x8
        case y41x8 => (intro wS hS; (try go_simp); (try with_reducible rfl))
        try simp only [Act.put, List.setIfInBounds_toArray, List.set_cons_zero, List.set_cons_succ]
        refine wpAnyH_take (i := 8) (oi := { dst := some 57, op := Op.indexAddr 36 (Operand.tmp 55) (Operand.tmp 56), type := 0, pos := "ref.go:136", after := #[{ on := 6, ground := Ground.data }, { on := 7, ground := Ground.data }], guard := none }) (v := ?v41x9) rfl (by kernel_rfl) (by kernel_rfl) (by kernel_rfl) (fun _ _ _ h => h) (Or.inl ⟨by rfl, ?y41x9⟩) hn ?r41x9
        case y41x9 => (intro wS hS; (try go_simp); (try with_reducible rfl))
        try simp only [Act.put, List.setIfInBounds_toArray, List.set_cons_zero, List.set_cons_succ]
        refine wpAnyH_take (i := 9) (oi := { dst := some 58, op := Op.load 33 (Operand.tmp 57), type := 33, pos := "ref.go:136", after := #[{ on := 8, ground := Ground.data }], guard := none }) (v := ?v41x10) rfl (by kernel_rfl) (by kernel_rfl) (by kernel_rfl) (fun _ _ _ h => h) (Or.inl ⟨by rfl, ?y41x10⟩) hn ?r41x10
        case y41x10 => (intro wS hS; have c0 := hS.1.cell HCY.out (fun h => h); (try go_simp); (try with_reducible rfl))
        try simp only [Act.put, List.setIfInBounds_toArray, List.set_cons_zero, List.set_cons_succ]
        refine wpAnyH_ready (rs := [10]) (by kernel_rfl) (by simp) ?_
        refine AllReadyH.cons (o := { dst := some 59, op := Op.call { callee := Callee.value (Operand.func 22), args := #[Operand.tmp 53, Operand.tmp 58], argTypes := #[33, 33] }, type := 4, pos := "ref.go:136", after := #[{ on := 4, ground := Ground.data }, { on := 9, ground := Ground.data }], guard := none }) rfl (fun K hK => ?_) AllReadyH.nil
        go_simp
        refine (HC.out _ hn.1).mono ?_
        rintro e wq ⟨bb, rfl, hbb, hnq⟩
        have HB := hid hbb
        clear hbb
        go_wp2_with fail
        have hn := hn.new hnq
        have hnr := hnr.trans hnq
        refine hK.out _ _ (by first | exact hn | exact Upd.alloc hn _) (fun hn => ?_)
        clear hK K
        try simp only [Act.put, List.setIfInBounds_toArray, List.set_cons_zero, List.set_cons_succ]
        refine wpAnyH_take (i := 11) (oi := { dst := some 60, op := Op.unOp UnOp.not 4 (Operand.tmp 59), type := 4, pos := "ref.go:136", after := #[{ on := 10, ground := Ground.data }], guard := none }) (v := ?v41x11) rfl (by kernel_rfl) (by kernel_rfl) (by kernel_rfl) (fun _ _ _ h => h) (Or.inl ⟨by rfl, ?y41x11⟩) hn ?r41x11
        case y41x11 => (intro wS hS; go_simp; (try go_simp); (try with_reducible rfl))
        try simp only [Act.put, List.setIfInBounds_toArray, List.set_cons_zero, List.set_cons_succ]
        refine wpAnyH_done (by kernel_rfl) ?_ _
        refine NoPanic.normal ?_
        have HH := hid hn
        have HR := hid hnr
        clear hn hnr
        cases bb
        (go_wp2_with fail; go_ret; exact ⟨_, rfl, iff_of_false (by decide) (fun e => get_ne HG1.out HG2.out (fun h => Bool.noConfusion (HB.out.2 h)) (by injection e)), HH.out.1⟩)
        go_wp2_with fail
        go_roundw
        case rel => exact ⟨i + 1, by go_num, by omega, take_eq_step HI.out HG1.out (by rw [HG2.out, ← HB.out.1 rfl]), HR.out⟩
        case measure => (simp [intOf]; omega)
      · have e : i = xs.length := by omega
        subst e
        have HI : Hid (xs = ys) := take_all HL.out hi2
        clear hi2
        have HW := hid hbx.1
        clear hnw hbx
        go_wp2_with fail
        go_ret
        refine ⟨_, rfl, iff_of_true rfl ?_, HW.out⟩
        rw [HB2.out, HI.out]
  · have hb : (((xs.length : Nat) : Int) != ((ys.length : Nat) : Int)) = true := by simp; omega
    have HL := hid hl
    clear hl
    go_wp2_with fail
    go_ret
    exact ⟨_, rfl, iff_of_false (by decide) (fun h => HL.out (by injection h with _ _ _ _ h; exact congrArg List.length h)), HW1.out.1⟩
theorem rSameC_any {B B' C C' : Nat → Prop} (g h : Cod) (x y v u : Value) (w : World) (hx : RdE 2 EU w B x g.ls) (hy : RdE 2 EU w B' y h.ls) (hv : RdE 12 ER w C v g.b) (hu : RdE 12 ER w C' u h.b) (f1 : FitC g) (f2 : FitC h) :
    Calls Tryd.prog 16 #[.agg #[x, v], .agg #[y, u]] w (SameP (g = h) w) := by
  have HE := hid (fun w' (hn : New w w') => rSame8_any v u g.b h.b w' (hv.new ER.ok hn) (hu.new ER.ok hn) f1.2 f2.2)
  have hp : Tryd.prog.stoodInHeld 82 = false := by kernel_rfl
  have hg : Tryd.prog.eqGuardType Tryd.prog.depth 82 = false := by kernel_rfl
  obtain ⟨a, c, rfl⟩ := hv.shape
  obtain ⟨a2, c2, rfl⟩ := hu.shape
  obtain ⟨a3, c3, rfl, hcell⟩ := eu_at hx
  obtain ⟨a4, c4, rfl, hcell2⟩ := eu_at hy
  have HX := hid hcell
  have HY := hid hcell2
  have l1 := f1.1
  have l2 := f2.1
  clear hx hy hv hu f1 f2 hcell hcell2
  obtain ⟨xs, bd⟩ := g
  obtain ⟨ys, bd'⟩ := h
  have HN := hid (fun o o' => ((Upd.refl (fun _ => False) w).alloc o).alloc o')
  simp only at *
  have HW : Hid (Bx2 w #[.slice a3 xs.length c3, .slice a bd.length c] 43 #[.slice a4 ys.length c4, .slice a2 bd'.length c2] 43
    ((w.alloc (.cells #[.slice a3 xs.length c3, .slice a bd.length c] 43)).alloc (.cells #[.slice a4 ys.length c4, .slice a2 bd'.length c2] 43))) := Bx2.mk0
  by_cases hl : xs.length = ys.length
  · have hb : (((xs.length : Nat) : Int) != ((ys.length : Nat) : Int)) = false := by simp [hl]
    have HL := hid hl
    clear hl
    go_enter Tryd.func16, Tryd.ntmps16
    go_wp2_with fail
    generalize (w.alloc (.cells #[.slice a3 xs.length c3, .slice a bd.length c] 43)).alloc (.cells #[.slice a4 ys.length c4, .slice a2 bd'.length c2] 43) = w0 at *
    go_loopw [5] (fun c wr => ∃ i : Nat, c = .int .i64 i ∧ i ≤ xs.length ∧ xs.take i = ys.take i ∧ New w0 wr) (fun c _ => xs.length - (intOf c).toNat)
    case atStart => exact ⟨0, rfl, by omega, by simp, Upd.refl _ _⟩
    case round =>
      obtain ⟨i, rfl, hi1, hi2, hnw⟩ := hrel
      have hbx := HW.out.new hnw
      have z0 := hbx.at1 0 (v := .slice a3 xs.length c3) rfl
      have z1 := hbx.at2 0 (v := .slice a4 ys.length c4) rfl
      by_cases hi : i < xs.length
      · have hi' : i < ys.length := by have := HL.out; omega
        obtain ⟨b, o, rfl, hc0, hc1⟩ := HX.out i hi
        obtain ⟨b2, o2, rfl, hd0, hd1⟩ := HY.out i hi'
        have q0 := hid hc0
        have q1 := hid hc1
        have r0 := hid hd0
        have r1 := hid hd1
        have HG1 : Hid (xs[i]? = some xs[i]) := List.getElem?_eq_getElem hi
        have HG2 : Hid (ys[i]? = some ys[i]) := List.getElem?_eq_getElem hi'
        have HI := hid hi2
        have hn := hbx.new (Upd.refl _ wr).drew
        have hnr : New w0 wr.drew := hnw.drew
        clear hc0 hc1 hd0 hd1 hi2 hnw hbx
        generalize xs[i] = P at *
        generalize ys[i] = Q at *
        obtain ⟨n, s⟩ := P
        obtain ⟨m, t⟩ := Q
        simp only at q0 q1 r0 r1
        by_cases hpq : n = m ∧ s = t
        · obtain ⟨rfl, rfl⟩ := hpq
          go_wp2_with fail
          clear z0 z1
          refine wp_region_noPanic ?_
          refine wp_region_held_drew (S := (Bx2 w #[.slice (some ⟨b, o, none⟩) xs.length c3, .slice a bd.length c] 43 #[.slice (some ⟨b2, o2, none⟩) ys.length c4, .slice a2 bd'.length c2] 43)) (by kernel_rfl) (by first | exact hn | exact (Upd.refl _ _).drew | exact Upd.drew (by assumption)) (fun hn => ?_)
          generalize wr.drew = wd at *
          refine wpAnyH_take (i := 0) (oi := { dst := some 20, op := Op.fieldAddr 43 (Operand.tmp 2) 0, type := 0, pos := "ref.go:154", after := #[], guard := none }) (v := ?v42x1) rfl (by kernel_rfl) (by kernel_rfl) (by kernel_rfl) (fun _ _ _ h => h) (Or.inl ⟨by rfl, ?y42x1⟩) hn ?r42x1
          case y42x1 => (intro wS hS; (try go_simp); (try with_reducible rfl))
          try simp only [Act.put, List.setIfInBounds_toArray, List.set_cons_zero, List.set_cons_succ]
          refine wpAnyH_take (i := 1) (oi := { dst := some 21, op := Op.load 41 (Operand.tmp 20), type := 41, pos := "ref.go:154", after := #[{ on := 0, ground := Ground.data }], guard := none }) (v := ?v42x2) rfl (by kernel_rfl) (by kernel_rfl) (by kernel_rfl) (fun _ _ _ h => h) (Or.inl ⟨by rfl, ?y42x2⟩) hn ?r42x2
          case y42x2 => (intro wS hS; have c0 := hS.at1 0 (v := .slice (some ⟨b, o, none⟩) xs.length c3) rfl; (try go_simp); (try with_reducible rfl))
          try simp only [Act.put, List.setIfInBounds_toArray, List.set_cons_zero, List.set_cons_succ]
          refine wpAnyH_take (i := 2) (oi := { dst := some 22, op := Op.move (Operand.tmp 5), type := 3, pos := "ref.go:154", after := #[], guard := none }) (v := ?v42x3) rfl (by kernel_rfl) (by kernel_rfl) (by kernel_rfl) (fun _ _ _ h => h) (Or.inl ⟨by rfl, ?y42x3⟩) hn ?r42x3
          case y42x3 => (intro wS hS; (try go_simp); (try with_reducible rfl))
          try simp only [Act.put, List.setIfInBounds_toArray, List.set_cons_zero, List.set_cons_succ]
          refine wpAnyH_take (i := 3) (oi := { dst := some 23, op := Op.indexAddr 41 (Operand.tmp 21) (Operand.tmp 22), type := 0, pos := "ref.go:154", after := #[{ on := 1, ground := Ground.data }, { on := 2, ground := Ground.data }], guard := none }) (v := ?v42x4) rfl (by kernel_rfl) (by kernel_rfl) (by kernel_rfl) (fun _ _ _ h => h) (Or.inl ⟨by rfl, ?y42x4⟩) hn ?r42x4
          case y42x4 => (intro wS hS; (try go_simp); (try with_reducible rfl))
          try simp only [Act.put, List.setIfInBounds_toArray, List.set_cons_zero, List.set_cons_succ]
          refine wpAnyH_take (i := 4) (oi := { dst := some 24, op := Op.load 82 (Operand.tmp 23), type := 82, pos := "ref.go:154", after := #[{ on := 3, ground := Ground.data }], guard := none }) (v := ?v42x5) rfl (by kernel_rfl) (by kernel_rfl) (by kernel_rfl) (fun _ _ _ h => h) (Or.inl ⟨by rfl, ?y42x5⟩) hn ?r42x5
          case y42x5 => (intro wS hS; have c0 := hS.1.cell q0.out (fun h => h); have c1 := hS.1.cell q1.out (fun h => h); (try go_simp); (try with_reducible rfl))
          try simp only [Act.put, List.setIfInBounds_toArray, List.set_cons_zero, List.set_cons_succ]
          refine wpAnyH_take (i := 5) (oi := { dst := some 25, op := Op.fieldAddr 43 (Operand.tmp 3) 0, type := 0, pos := "ref.go:154", after := #[], guard := none }) (v := ?v42x6) rfl (by kernel_rfl) (by kernel_rfl) (by kernel_rfl) (fun _ _ _ h => h) (Or.inl ⟨by rfl, ?y42x6⟩) hn ?r42x6
          case y42x6 => (intro wS hS; (try go_simp); (try with_reducible rfl))
          try simp only [Act.put, List.setIfInBounds_toArray, List.set_cons_zero, List.set_cons_succ]
          refine wpAnyH_take (i := 6) (oi := { dst := some 26, op := Op.load 41 (Operand.tmp 25), type := 41, pos := "ref.go:154", after := #[{ on := 5, ground := Ground.data }], guard := none }) (v := ?v42x7) rfl (by kernel_rfl) (by kernel_rfl) (by kernel_rfl) (fun _ _ _ h => h) (Or.inl ⟨by rfl, ?y42x7⟩) hn ?r42x7
          case y42x7 => (intro wS hS; have c0 := hS.at2 0 (v := .slice (some ⟨b2, o2, none⟩) ys.length c4) rfl; (try go_simp); (try with_reducible rfl))
          try simp only [Act.put, List.setIfInBounds_toArray, List.set_cons_zero, List.set_cons_succ]
          refine wpAnyH_take (i := 7) (oi := { dst := some 27, op := Op.move (Operand.tmp 5), type := 3, pos := "ref.go:154", after := #[], guard := none }) (v := ?v42x8) rfl (by kernel_rfl) (by kernel_rfl) (by kernel_rfl) (fun _ _ _ h => h) (Or.inl ⟨by rfl, ?y42x8⟩) hn ?r42x8
          case y42x8 => (intro wS hS; (try go_simp); (try with_reducible rfl))
          try simp only [Act.put, List.setIfInBounds_toArray, List.set_cons_zero, List.set_cons_succ]
          refine wpAnyH_take (i := 8) (oi := { dst := some 28, op := Op.indexAddr 41 (Operand.tmp 26) (Operand.tmp 27), type := 0, pos := "ref.go:154", after := #[{ on := 6, ground := Ground.data }, { on := 7, ground := Ground.data }], guard := none }) (v := ?v42x9) rfl (by kernel_rfl) (by kernel_rfl) (by kernel_rfl) (fun _ _ _ h => h) (Or.inl ⟨by rfl, ?y42x9⟩) hn ?r42x9
          case y42x9 => (intro wS hS; (try go_simp); (try with_reducible rfl))
          try simp only [Act.put, List.setIfInBounds_toArray, List.set_cons_zero, List.set_cons_succ]
          refine wpAnyH_take (i := 9) (oi := { dst := some 29, op := Op.load 82 (Operand.tmp 28), type := 82, pos := "ref.go:154", after := #[{ on := 8, ground := Ground.data }], guard := none }) (v := ?v42x10) rfl (by kernel_rfl) (by kernel_rfl) (by kernel_rfl) (fun _ _ _ h => h) (Or.inl ⟨by rfl, ?y42x10⟩) hn ?r42x10
          case y42x10 => (intro wS hS; have c0 := hS.1.cell r0.out (fun h => h); have c1 := hS.1.cell r1.out (fun h => h); (try go_simp); (try with_reducible rfl))
          try simp only [Act.put, List.setIfInBounds_toArray, List.set_cons_zero, List.set_cons_succ]
          refine wpAnyH_take (i := 10) (oi := { dst := some 30, op := Op.binOp BinOp.neq 82 (Operand.tmp 24) (Operand.tmp 29) 82, type := 4, pos := "ref.go:154", after := #[{ on := 4, ground := Ground.data }, { on := 9, ground := Ground.data }], guard := none }) (v := ?v42x11) rfl (by kernel_rfl) (by kernel_rfl) (by kernel_rfl) (fun _ _ _ h => h) (Or.inl ⟨by rfl, ?y42x11⟩) hn ?r42x11
          case y42x11 => (intro wS hS; go_simp; (try go_simp); (try with_reducible rfl))
          try simp only [Act.put, List.setIfInBounds_toArray, List.set_cons_zero, List.set_cons_succ]
          refine wpAnyH_done (by kernel_rfl) ?_ _
          refine NoPanic.normal ?_
          have HR := hid hnr
          clear hn hnr
          go_wp2_with fail
          go_roundw
          case rel => exact ⟨i + 1, by go_num, by omega, take_eq_step HI.out HG1.out HG2.out, HR.out⟩
          case measure => (simp [intOf]; omega)
        · have HP : Hid ((n, s) ≠ (m, t)) := fun e => hpq (Prod.mk.inj e)
          by_cases hnm : n = m
          · subst hnm
            have hs1 : ((s : Int) = (t : Int)) = False := eq_false (by omega)
            have hs2 : (s = t) = False := eq_false (by omega)
            clear hpq
            go_wp2_with fail
            clear z0 z1
            refine wp_region_noPanic ?_
            refine wp_region_held_drew (S := (Bx2 w #[.slice (some ⟨b, o, none⟩) xs.length c3, .slice a bd.length c] 43 #[.slice (some ⟨b2, o2, none⟩) ys.length c4, .slice a2 bd'.length c2] 43)) (by kernel_rfl) (by first | exact hn | exact (Upd.refl _ _).drew | exact Upd.drew (by assumption)) (fun hn => ?_)
            generalize wr.drew = wd at *
            refine wpAnyH_take (i := 0) (oi := { dst := some 20, op := Op.fieldAddr 43 (Operand.tmp 2) 0, type := 0, pos := "ref.go:154", after := #[], guard := none }) (v := ?v43x1) rfl (by kernel_rfl) (by kernel_rfl) (by kernel_rfl) (fun _ _ _ h => h) (Or.inl ⟨by rfl, ?y43x1⟩) hn ?r43x1
            case y43x1 => (intro wS hS; (try go_simp); (try with_reducible rfl))
            try simp only [Act.put, List.setIfInBounds_toArray, List.set_cons_zero, List.set_cons_succ]
            refine wpAnyH_take (i := 1) (oi := { dst := some 21, op := Op.load 41 (Operand.tmp 20), type := 41, pos := "ref.go:154", after := #[{ on := 0, ground := Ground.data }], guard := none }) (v := ?v43x2) rfl (by kernel_rfl) (by kernel_rfl) (by kernel_rfl) (fun _ _ _ h => h) (Or.inl ⟨by rfl, ?y43x2⟩) hn ?r43x2
            case y43x2 => (intro wS hS; have c0 := hS.at1 0 (v := .slice (some ⟨b, o, none⟩) xs.length c3) rfl; (try go_simp); (try with_reducible rfl))
            try simp only [Act.put, List.setIfInBounds_toArray, List.set_cons_zero, List.set_cons_succ]
            refine wpAnyH_take (i := 2) (oi := { dst := some 22, op := Op.move (Operand.tmp 5), type := 3, pos := "ref.go:154", after := #[], guard := none }) (v := ?v43x3) rfl (by kernel_rfl) (by kernel_rfl) (by kernel_rfl) (fun _ _ _ h => h) (Or.inl ⟨by rfl, ?y43x3⟩) hn ?r43x3
            case y43x3 => (intro wS hS; (try go_simp); (try with_reducible rfl))
            try simp only [Act.put, List.setIfInBounds_toArray, List.set_cons_zero, List.set_cons_succ]
            refine wpAnyH_take (i := 3) (oi := { dst := some 23, op := Op.indexAddr 41 (Operand.tmp 21) (Operand.tmp 22), type := 0, pos := "ref.go:154", after := #[{ on := 1, ground := Ground.data }, { on := 2, ground := Ground.data }], guard := none }) (v := ?v43x4) rfl (by kernel_rfl) (by kernel_rfl) (by kernel_rfl) (fun _ _ _ h => h) (Or.inl ⟨by rfl, ?y43x4⟩) hn ?r43x4
            case y43x4 => (intro wS hS; (try go_simp); (try with_reducible rfl))
            try simp only [Act.put, List.setIfInBounds_toArray, List.set_cons_zero, List.set_cons_succ]
            refine wpAnyH_take (i := 4) (oi := { dst := some 24, op := Op.load 82 (Operand.tmp 23), type := 82, pos := "ref.go:154", after := #[{ on := 3, ground := Ground.data }], guard := none }) (v := ?v43x5) rfl (by kernel_rfl) (by kernel_rfl) (by kernel_rfl) (fun _ _ _ h => h) (Or.inl ⟨by rfl, ?y43x5⟩) hn ?r43x5
            case y43x5 => (intro wS hS; have c0 := hS.1.cell q0.out (fun h => h); have c1 := hS.1.cell q1.out (fun h => h); (try go_simp); (try with_reducible rfl))
            try simp only [Act.put, List.setIfInBounds_toArray, List.set_cons_zero, List.set_cons_succ]
            refine wpAnyH_take (i := 5) (oi := { dst := some 25, op := Op.fieldAddr 43 (Operand.tmp 3) 0, type := 0, pos := "ref.go:154", after := #[], guard := none }) (v := ?v43x6) rfl (by kernel_rfl) (by kernel_rfl) (by kernel_rfl) (fun _ _ _ h => h) (Or.inl ⟨by rfl, ?y43x6⟩) hn ?r43x6
            case y43x6 => (intro wS hS; (try go_simp); (try with_reducible rfl))
            try simp only [Act.put, List.setIfInBounds_toArray, List.set_cons_zero, List.set_cons_succ]
            refine wpAnyH_take (i := 6) (oi := { dst := some 26, op := Op.load 41 (Operand.tmp 25), type := 41, pos := "ref.go:154", after := #[{ on := 5, ground := Ground.data }], guard := none }) (v := ?v43x7) rfl (by kernel_rfl) (by kernel_rfl) (by kernel_rfl) (fun _ _ _ h => h) (Or.inl ⟨by rfl, ?y43x7⟩) hn ?r43x7
            case y43x7 => (intro wS hS; have c0 := hS.at2 0 (v := .slice (some ⟨b2, o2, none⟩) ys.length c4) rfl; (try go_simp); (try with_reducible rfl))
            try simp only [Act.put, List.setIfInBounds_toArray, List.set_cons_zero, List.set_cons_succ]
            refine wpAnyH_take (i := 7) (oi := { dst := some 27, op := Op.move (Operand.tmp 5), type := 3, pos := "ref.go:154", after := #[], guard := none }) (v := ?v43x8) rfl (by kernel_rfl) (by kernel_rfl) (by kernel_rfl) (fun _ _ _ h => h) (Or.inl ⟨by rfl, ?y43x8⟩) hn ?r43x8
            case y43x8 => (intro wS hS; (try go_simp); (try with_reducible rfl))
            try simp only [Act.put, List.setIfInBounds_toArray, List.set_cons_zero, List.set_cons_succ]
            refine wpAnyH_take (i := 8) (oi := { dst := some 28, op := Op.indexAddr 41 (Operand.tmp 26) (Operand.tmp 27), type := 0, pos := "ref.go:154", after := #[{ on := 6, ground := Ground.data }, { on := 7, ground := Ground.data }], guard := none }) (v := ?v43x9) rfl (by kernel_rfl) (by kernel_rfl) (by kernel_rfl) (fun _ _ _ h => h) (Or.inl ⟨by rfl, ?y43x9⟩) hn ?r43x9
            case y43x9 => (intro wS hS; (try go_simp); (try with_reducible rfl))
            try simp only [Act.put, List.setIfInBounds_toArray, List.set_cons_zero, List.set_cons_succ]
            refine wpAnyH_take (i := 9) (oi := { dst := some 29, op := Op.load 82 (Operand.tmp 28), type := 82, pos := "ref.go:154", after := #[{ on := 8, ground := Ground.data }], guard := none }) (v := ?v43x10) rfl (by kernel_rfl) (by kernel_rfl) (by kernel_rfl) (fun _ _ _ h => h) (Or.inl ⟨by rfl, ?y43x10⟩) hn ?r43x10
            case y43x10 => (intro wS hS; have c0 := hS.1.cell r0.out (fun h => h); have c1 := hS.1.cell r1.out (fun h => h); (try go_simp); (try with_reducible rfl))
            try simp only [Act.put, List.setIfInBounds_toArray, List.set_cons_zero, List.set_cons_succ]
            refine wpAnyH_take (i := 10) (oi := { dst := some 30, op := Op.binOp BinOp.neq 82 (Operand.tmp 24) (Operand.tmp 29) 82, type := 4, pos := "ref.go:154", after := #[{ on := 4, ground := Ground.data }, { on := 9, ground := Ground.data }], guard := none }) (v := ?v43x11) rfl (by kernel_rfl) (by kernel_rfl) (by kernel_rfl) (fun _ _ _ h => h) (Or.inl ⟨by rfl, ?y43x11⟩) hn ?r43x11
            case y43x11 => (intro wS hS; go_simp; (try go_simp); (try with_reducible rfl))
            try simp only [Act.put, List.setIfInBounds_toArray, List.set_cons_zero, List.set_cons_succ]
            refine wpAnyH_done (by kernel_rfl) ?_ _
            refine NoPanic.normal ?_
            have HH := hid hn
            clear hn hnr
            go_wp2_with fail
            go_ret
            exact ⟨_, rfl, iff_of_false (by decide) (fun e => get_ne HG1.out HG2.out HP.out (by injection e)), HH.out.1⟩
          · have hs1 : ((n : Int) = (m : Int)) = False := eq_false (by omega)
            have hs2 : (n = m) = False := eq_false hnm
            clear hpq hnm
            go_wp2_with fail
            clear z0 z1
            refine wp_region_noPanic ?_
            refine wp_region_held_drew (S := (Bx2 w #[.slice (some ⟨b, o, none⟩) xs.length c3, .slice a bd.length c] 43 #[.slice (some ⟨b2, o2, none⟩) ys.length c4, .slice a2 bd'.length c2] 43)) (by kernel_rfl) (by first | exact hn | exact (Upd.refl _ _).drew | exact Upd.drew (by assumption)) (fun hn => ?_)
            generalize wr.drew = wd at *
            refine wpAnyH_take (i := 0) (oi := { dst := some 20, op := Op.fieldAddr 43 (Operand.tmp 2) 0, type := 0, pos := "ref.go:154", after := #[], guard := none }) (v := ?v44x1) rfl (by kernel_rfl) (by kernel_rfl) (by kernel_rfl) (fun _ _ _ h => h) (Or.inl ⟨by rfl, ?y44x1⟩) hn ?r44x1
            case y44x1 => (intro wS hS; (try go_simp); (try with_reducible rfl))
            try simp only [Act.put, List.setIfInBounds_toArray, List.set_cons_zero, List.set_cons_succ]
            refine wpAnyH_take (i := 1) (oi := { dst := some 21, op := Op.load 41 (Operand.tmp 20), type := 41, pos := "ref.go:154", after := #[{ on := 0, ground := Ground.data }], guard := none }) (v := ?v44x2) rfl (by kernel_rfl) (by kernel_rfl) (by kernel_rfl) (fun _ _ _ h => h) (Or.inl ⟨by rfl, ?y44x2⟩) hn ?r44x2
            case y44x2 => (intro wS hS; have c0 := hS.at1 0 (v := .slice (some ⟨b, o, none⟩) xs.length c3) rfl; (try go_simp); (try with_reducible rfl))
            try simp only [Act.put, List.setIfInBounds_toArray, List.set_cons_zero, List.set_cons_succ]
            refine wpAnyH_take (i := 2) (oi := { dst := some 22, op := Op.move (Operand.tmp 5), type := 3, pos := "ref.go:154", after := #[], guard := none }) (v := ?v44x3) rfl (by kernel_rfl) (by kernel_rfl) (by kernel_rfl) (fun _ _ _ h => h) (Or.inl ⟨by rfl, ?y44x3⟩) hn ?r44x3
            case y44x3 => (intro wS hS; (try go_simp); (try with_reducible rfl))
            try simp only [Act.put, List.setIfInBounds_toArray, List.set_cons_zero, List.set_cons_succ]
            refine wpAnyH_take (i := 3) (oi := { dst := some 23, op := Op.indexAddr 41 (Operand.tmp 21) (Operand.tmp 22), type := 0, pos := "ref.go:154", after := #[{ on := 1, ground := Ground.data }, { on := 2, ground := Ground.data }], guard := none }) (v := ?v44x4) rfl (by kernel_rfl) (by kernel_rfl) (by kernel_rfl) (fun _ _ _ h => h) (Or.inl ⟨by rfl, ?y44x4⟩) hn ?r44x4
            case y44x4 => (intro wS hS; (try go_simp); (try with_reducible rfl))
            try simp only [Act.put, List.setIfInBounds_toArray, List.set_cons_zero, List.set_cons_succ]
            refine wpAnyH_take (i := 4) (oi := { dst := some 24, op := Op.load 82 (Operand.tmp 23), type := 82, pos := "ref.go:154", after := #[{ on := 3, ground := Ground.data }], guard := none }) (v := ?v44x5) rfl (by kernel_rfl) (by kernel_rfl) (by kernel_rfl) (fun _ _ _ h => h) (Or.inl ⟨by rfl, ?y44x5⟩) hn ?r44x5
            case y44x5 => (intro wS hS; have c0 := hS.1.cell q0.out (fun h => h); have c1 := hS.1.cell q1.out (fun h => h); (try go_simp); (try with_reducible rfl))
            try simp only [Act.put, List.setIfInBounds_toArray, List.set_cons_zero, List.set_cons_succ]
            refine wpAnyH_take (i := 5) (oi := { dst := some 25, op := Op.fieldAddr 43 (Operand.tmp 3) 0, type := 0, pos := "ref.go:154", after := #[], guard := none }) (v := ?v44x6) rfl (by kernel_rfl) (by kernel_rfl) (by kernel_rfl) (fun _ _ _ h => h) (Or.inl ⟨by rfl, ?y44x6⟩) hn ?r44x6
            case y44x6 => (intro wS hS; (try go_simp); (try with_reducible rfl))
            try simp only [Act.put, List.setIfInBounds_toArray, List.set_cons_zero, List.set_cons_succ]
            refine wpAnyH_take (i := 6) (oi := { dst := some 26, op := Op.load 41 (Operand.tmp 25), type := 41, pos := "ref.go:154", after := #[{ on := 5, ground := Ground.data }], guard := none }) (v := ?v44x7) rfl (by kernel_rfl) (by kernel_rfl) (by kernel_rfl) (fun _ _ _ h => h) (Or.inl ⟨by rfl, ?y44x7⟩) hn ?r44x7
            case y44x7 => (intro wS hS; have c0 := hS.at2 0 (v := .slice (some ⟨b2, o2, none⟩) ys.length c4) rfl; (try go_simp); (try with_reducible rfl))
            try simp only [Act.put, List.setIfInBounds_toArray, List.set_cons_zero, List.set_cons_succ]
            refine wpAnyH_take (i := 7) (oi := { dst := some 27, op := Op.move (Operand.tmp 5), type := 3, pos := "ref.go:154", after := #[], guard := none }) (v := ?v44x8) rfl (by kernel_rfl) (by kernel_rfl) (by kernel_rfl) (fun _ _ _ h => h) (Or.inl ⟨by rfl, ?y44x8⟩) hn ?r44x8
            case y44x8 => (intro wS hS; (try go_simp); (try with_reducible rfl))
            try simp only [Act.put, List.setIfInBounds_toArray, List.set_cons_zero, List.set_cons_succ]
            refine wpAnyH_take (i := 8) (oi := { dst := some 28, op := Op.indexAddr 41 (Operand.tmp 26) (Operand.tmp 27), type := 0, pos := "ref.go:154", after := #[{ on := 6, ground := Ground.data }, { on := 7, ground := Ground.data }], guard := none }) (v := ?v44x9) rfl (by kernel_rfl) (by kernel_rfl) (by kernel_rfl) (fun _ _ _ h => h) (Or.inl ⟨by rfl, ?y44x9⟩) hn ?r44x9
            case y44x9 => (intro wS hS; (try go_simp); (try with_reducible rfl))
            try simp only [Act.put, List.setIfInBounds_toArray, List.set_cons_zero, List.set_cons_succ]
            refine wpAnyH_take (i := 9) (oi := { dst := some 29, op := Op.load 82 (Operand.tmp 28), type := 82, pos := "ref.go:154", after := #[{ on := 8, ground := Ground.data }], guard := none }) (v := ?v44x10) rfl (by kernel_rfl) (by kernel_rfl) (by kernel_rfl) (fun _ _ _ h => h) (Or.inl ⟨by rfl, ?y44x10⟩) hn ?r44x10
            case y44x10 => (intro wS hS; have c0 := hS.1.cell r0.out (fun h => h); have c1 := hS.1.cell r1.out (fun h => h); (try go_simp); (try with_reducible rfl))
            try simp only [Act.put, List.setIfInBounds_toArray, List.set_cons_zero, List.set_cons_succ]
            refine wpAnyH_take (i := 10) (oi := { dst := some 30, op := Op.binOp BinOp.neq 82 (Operand.tmp 24) (Operand.tmp 29) 82, type := 4, pos := "ref.go:154", after := #[{ on := 4, ground := Ground.data }, { on := 9, ground := Ground.data }], guard := none }) (v := ?v44x11) rfl (by kernel_rfl) (by kernel_rfl) (by kernel_rfl) (fun _ _ _ h => h) (Or.inl ⟨by rfl, ?y44x11⟩) hn ?r44x11
            case y44x11 => (intro wS hS; go_simp; (try go_simp); (try with_reducible rfl))
            try simp only [Act.put, List.setIfInBounds_toArray, List.set_cons_zero, List.set_cons_succ]
            refine wpAnyH_done (by kernel_rfl) ?_ _
            refine NoPanic.normal ?_
            have HH := hid hn
            clear hn hnr
            go_wp2_with fail
            go_ret
            exact ⟨_, rfl, iff_of_false (by decide) (fun e => get_ne HG1.out HG2.out HP.out (by injection e)), HH.out.1⟩
      · have e : i = xs.length := by omega
        subst e
        have HI : Hid (xs = ys) := take_all HL.out hi2
        clear hi2
        have z2 := hbx.at1 1 (v := .slice a bd.length c) rfl
        have z3 := hbx.at2 1 (v := .slice a2 bd'.length c2) rfl
        have HB := hid hbx.1
        clear hnw hbx
        go_wp2_with fail
        refine (HE.out _ HB.out).mono ?_
        rintro e w2 ⟨b, rfl, hb, hn2⟩
        have HBB := hid hb
        have HN2 := hid (New.trans HB.out hn2)
        clear hb hn2 z0 z1 z2 z3
        go_wp2_with fail
        go_ret
        refine ⟨_, rfl, HBB.out.trans ⟨fun h => ?_, fun h => by injection h⟩, HN2.out⟩
        rw [h, HI.out]
  · have hb : (((xs.length : Nat) : Int) != ((ys.length : Nat) : Int)) = true := by simp; omega
    have HL := hid hl
    clear hl
    go_enter Tryd.func16, Tryd.ntmps16
    go_wp2_with fail
    go_ret
    exact ⟨_, rfl, iff_of_false (by decide) (fun h => HL.out (by injection h with h; exact congrArg List.length h)), HN.out _ _⟩
end Go.Proofs.YtbllpajibhiobaaDoor

namespace Go.Proofs.YtbllpajibhiobaaDoor
open Go.RowKit Go.Proofs.Leb Go.Proofs.Own
set_option maxRecDepth 100000
set_option maxHeartbeats 8000000

theorem wpList_want {P : Program} {ops : Array Oper} {rest : List Oper} {o : Oper} {a : Act} {w : World} {Q : Exit → Act → World → Prop} (hw : Region.wanted o (yielded ops a.tmps) = true)
    (h : ∀ K : Act → World → Prop, (∀ a w, wpList P ops Q rest a w → K a w) → o.wp P a w K Q) : wpList P ops Q (o :: rest) a w :=
  wpList_step fun K hK => by rw [hw, if_pos rfl]; exact h K hK
theorem wpList_load_rowG {P : Program} {ops : Array Oper} {rest : List Oper} {o : Oper} {a : Act} {w : World} {Q : Exit → Act → World → Prop} (hw : Region.wanted o (yielded ops a.tmps) = true) (ty : TypeId) (x : Operand) (ho : o.op = .load ty x)
    (g : Nat) (hx : a.eval x = .pointer (some ⟨g, 0, none⟩)) (t : TypeId) (cs : Array Value) (d : TypeDesc) (hg : w.heap[g]? = some (.cells cs t))
    (hu : P.underlying ty = some d) (hd : (match d with | .struct _ | .array _ _ => true | _ => false) = true) (hi : (P.info? ty).map (·.size) = some cs.size)
    (h : wpList P ops Q rest (a.put o.dst (.agg cs)) w) : wpList P ops Q (o :: rest) a w :=
  wpList_want hw fun _ hK => wp_load_row ty x ho g hx t cs (0, 0) d hg hu hd hi (hK _ _ h)
theorem load_part {P : Program} {o : Oper} {a : Act} {w : World} {ty : TypeId} {x : Operand} {b off : Nat} {cs : Array Value} {d : TypeDesc} (ho : o.op = .load ty x)
    (hx : a.eval x = .pointer (some ⟨b, off, none⟩)) (hc : ∀ j v, cs[j]? = some v → w.cell? ⟨b, off + j, none⟩ = some v)
    (hu : P.underlying ty = some d) (hd : (match d with | .struct _ | .array _ _ => true | _ => false) = true) (hi : (P.info? ty).map (·.size) = some cs.size) :
    (execOp a.eval o).run P w = .ok (.value (.agg cs)) w := by
  unfold execOp
  simp only [ho, hx, Instr.loadAt, Instr.sureAddr, Sem.run_bind, Sem.run_pure, Result.andThen_ok, run_loadVar_at w b off ty cs d hc hu hd hi]
theorem gC_in (n : Ent) : ∀ j v, (gC n)[j]? = some v → (entC n)[16 + j]? = some v
  | 0, _, h => h
  | 1, _, h => h
  | 2, _, h => h
  | k + 3, _, h => by simp [gC] at h
theorem eC_in (n : Ent) : ∀ j v, (eC n)[j]? = some v → (entC n)[19 + j]? = some v
  | 0, _, h => h
  | 1, _, h => h
  | 2, _, h => h
  | 3, _, h => h
  | 4, _, h => h
  | k + 5, _, h => by simp [eC] at h
theorem dC_in (n : Ent) : ∀ j v, (dC n)[j]? = some v → (entC n)[24 + j]? = some v
  | 0, _, h => h
  | 1, _, h => h
  | 2, _, h => h
  | 3, _, h => h
  | k + 4, _, h => by simp [dC] at h
theorem cC_in (n : Ent) : ∀ j v, (cC n)[j]? = some v → (entC n)[28 + j]? = some v
  | 0, _, h => h
  | 1, _, h => h
  | k + 2, _, h => by simp [cC] at h
/-- the program's own -/
def PG (g : Glb) (v : Value) (w : World) : Prop := ∃ s B, v = .agg #[.int .u8 g.t, .bool g.m, s] ∧ RdE 12 EP w B s g.l
def PE (g : Elm) (v : Value) (w : World) : Prop := ∃ s l B C, v = .agg #[.int .i64 g.mo, .int .u8 g.ty, .int .u32 g.tb, s, l] ∧ RdE 12 EP w B s g.off ∧ RdE 1 (E1 FXP) w C l g.l
def PD (g : Dat) (v : Value) (w : World) : Prop := ∃ s B, v = .agg #[.bool g.a, .int .u32 g.me, s, .string g.s] ∧ RdE 12 EP w B s g.off
def PC (g : Cod) (v : Value) (w : World) : Prop := ∃ s l B C, v = .agg #[s, l] ∧ RdE 2 EU w B s g.ls ∧ RdE 12 EP w C l g.b
theorem PG.new {g : Glb} {v : Value} {a b : World} (h : PG g v a) (k : New a b) : PG g v b := by
  obtain ⟨s, B, rfl, h⟩ := h
  exact ⟨s, B, rfl, h.new EP.ok k⟩
theorem PE.new {g : Elm} {v : Value} {a b : World} (h : PE g v a) (k : New a b) : PE g v b := by
  obtain ⟨s, l, B, C, rfl, h, h2⟩ := h
  exact ⟨s, l, B, C, rfl, h.new EP.ok k, h2.new (E1.ok FXP.ok) k⟩
theorem PD.new {g : Dat} {v : Value} {a b : World} (h : PD g v a) (k : New a b) : PD g v b := by
  obtain ⟨s, B, rfl, h⟩ := h
  exact ⟨s, B, rfl, h.new EP.ok k⟩
theorem PC.new {g : Cod} {v : Value} {a b : World} (h : PC g v a) (k : New a b) : PC g v b := by
  obtain ⟨s, l, B, C, rfl, h, h2⟩ := h
  exact ⟨s, l, B, C, rfl, h.new EU.ok k, h2.new EP.ok k⟩
def OwnV (P : Value → World → Prop) (w : World) (e : Ending) (w' : World) : Prop := ∃ v, e = .returned v ∧ P v w' ∧ New w w'
theorem boolOf' (q : Prop) : ∃ b : Bool, b = true ↔ q := by
  by_cases h : q
  · exact ⟨true, iff_of_true rfl h⟩
  · exact ⟨false, iff_of_false (by decide) h⟩
def E2N (w : World) (n o : Ent) (w' : World) : Prop := New w w' ∧ w'.heap[w.heap.size]? = some (.cells (entC n) 45) ∧ w'.heap[w.heap.size + 1]? = some (.cells (entC o) 45)
theorem E2N.new {w a b : World} {n o : Ent} (h : E2N w n o a) (k : New a b) : E2N w n o b := ⟨New.trans h.1 k, hp1 h.2.1 k, hp1 h.2.2 k⟩
theorem E2N.at1 {w a : World} {n o : Ent} (h : E2N w n o a) {cs : Array Value} {k : Nat} (hc : ∀ j v, cs[j]? = some v → (entC n)[k + j]? = some v) : ∀ j v, cs[j]? = some v → a.cell? ⟨w.heap.size, k + j, none⟩ = some v := fun j v hj => cellAt h.2.1 (k + j) (hc j v hj)
theorem E2N.at2 {w a : World} {n o : Ent} (h : E2N w n o a) {cs : Array Value} {k : Nat} (hc : ∀ j v, cs[j]? = some v → (entC o)[k + j]? = some v) : ∀ j v, cs[j]? = some v → a.cell? ⟨w.heap.size + 1, k + j, none⟩ = some v := fun j v hj => cellAt h.2.2 (k + j) (hc j v hj)
theorem infoEn : (Tryd.prog.info? 45).map (·.size) = some 30 := by kernel_rfl
theorem ownG_v (n : Ent) (w' : World) (H : EntOk w' n) (f : FitG n.g) : Calls Tryd.prog 5 #[.agg (gC n)] w' (OwnV (PG n.g) w') := by
  have hn : New w' w' := Upd.refl _ _
  exact (ownG_any n.g n.lg w' (H.g.new ER.ok hn) f).mono fun _ _ ⟨a, c, he, h1, h2⟩ => ⟨_, he, ⟨_, _, rfl, h1⟩, h2⟩
theorem sameG_v {g h : Glb} {b : Bool} (hb : b = true ↔ g = h) (v u : Value) (w : World) (h1 : PG g v w) (h2 : PG h u w) (f1 : FitG g) (f2 : FitG h) : Calls Tryd.prog 6 #[v, u] w (IsNew b w) := by
  obtain ⟨s, B, rfl, h1⟩ := h1
  obtain ⟨s', B', rfl, h2⟩ := h2
  exact (pSameG_any g h s s' w h1 h2 f1 f2).mono fun _ _ k => same_new hb k
theorem refG_v {n o : Ent} {b : Bool} (hb : b = true ↔ n.g = o.g) (w : World) (h1 : EntOk w n) (h2 : EntOk w o) (f1 : FitG n.g) (f2 : FitG o.g) : Calls Tryd.prog 7 #[.agg (gC n), .agg (gC o)] w (IsNew b w) :=
  (rSameG_any n.g o.g n.lg o.lg w (h1.g) (h2.g) f1 f2).mono fun _ _ k => same_new hb k
theorem ownE_v (n : Ent) (w' : World) (H : EntOk w' n) (f : FitE n.e) : Calls Tryd.prog 8 #[.agg (eC n)] w' (OwnV (PE n.e) w') := by
  have hn : New w' w' := Upd.refl _ _
  exact (ownE_any n.e n.lo n.le w' (H.o.new ER.ok hn) (H.l.new (E1.ok FXR.ok) hn) f).mono fun _ _ ⟨a, c, a', c', he, h1, h1', h2⟩ => ⟨_, he, ⟨_, _, _, _, rfl, h1, h1'⟩, h2⟩
theorem sameE_v {g h : Elm} {b : Bool} (hb : b = true ↔ g = h) (v u : Value) (w : World) (h1 : PE g v w) (h2 : PE h u w) (f1 : FitE g) (f2 : FitE h) : Calls Tryd.prog 9 #[v, u] w (IsNew b w) := by
  obtain ⟨s, l, B, C, rfl, h1, k1⟩ := h1
  obtain ⟨s', l', B', C', rfl, h2, k2⟩ := h2
  exact (pSameE_any g h s s' l l' w h1 h2 k1 k2 f1 f2).mono fun _ _ k => same_new hb k
theorem refE_v {n o : Ent} {b : Bool} (hb : b = true ↔ n.e = o.e) (w : World) (h1 : EntOk w n) (h2 : EntOk w o) (f1 : FitE n.e) (f2 : FitE o.e) : Calls Tryd.prog 10 #[.agg (eC n), .agg (eC o)] w (IsNew b w) :=
  (rSameE_any n.e o.e n.lo o.lo n.le o.le w h1.o h2.o h1.l h2.l f1 f2).mono fun _ _ k => same_new hb k
theorem ownD_v (n : Ent) (w' : World) (H : EntOk w' n) (f : FitD n.d) : Calls Tryd.prog 11 #[.agg (dC n)] w' (OwnV (PD n.d) w') := by
  have hn : New w' w' := Upd.refl _ _
  exact (ownD_any n.d n.ld w' (H.d.new ER.ok hn) f).mono fun _ _ ⟨a, c, he, h1, h2⟩ => ⟨_, he, ⟨_, _, rfl, h1⟩, h2⟩
theorem sameD_v {g h : Dat} {b : Bool} (hb : b = true ↔ g = h) (v u : Value) (w : World) (h1 : PD g v w) (h2 : PD h u w) (f1 : FitD g) (f2 : FitD h) : Calls Tryd.prog 12 #[v, u] w (IsNew b w) := by
  obtain ⟨s, B, rfl, h1⟩ := h1
  obtain ⟨s', B', rfl, h2⟩ := h2
  exact (pSameD_any g h s s' w h1 h2 f1 f2).mono fun _ _ k => same_new hb k
theorem refD_v {n o : Ent} {b : Bool} (hb : b = true ↔ n.d = o.d) (w : World) (h1 : EntOk w n) (h2 : EntOk w o) (f1 : FitD n.d) (f2 : FitD o.d) : Calls Tryd.prog 13 #[.agg (dC n), .agg (dC o)] w (IsNew b w) :=
  (rSameD_any n.d o.d n.ld o.ld w h1.d h2.d f1 f2).mono fun _ _ k => same_new hb k
theorem ownC_v (n : Ent) (w' : World) (H : EntOk w' n) (f : FitC n.c) : Calls Tryd.prog 14 #[.agg (cC n)] w' (OwnV (PC n.c) w') := by
  have hn : New w' w' := Upd.refl _ _
  exact (ownC_any n.c n.ll n.lb w' (H.u.new EU.ok hn) (H.b.new ER.ok hn) f).mono fun _ _ ⟨a, c, a', c', he, h1, h1', h2⟩ => ⟨_, he, ⟨_, _, _, _, rfl, h1, h1'⟩, h2⟩
theorem sameC_v {g h : Cod} {b : Bool} (hb : b = true ↔ g = h) (v u : Value) (w : World) (h1 : PC g v w) (h2 : PC h u w) (f1 : FitC g) (f2 : FitC h) : Calls Tryd.prog 15 #[v, u] w (IsNew b w) := by
  obtain ⟨s, l, B, C, rfl, h1, k1⟩ := h1
  obtain ⟨s', l', B', C', rfl, h2, k2⟩ := h2
  exact (pSameC_any g h s s' l l' w h1 h2 k1 k2 f1 f2).mono fun _ _ k => same_new hb k
theorem refC_v {n o : Ent} {b : Bool} (hb : b = true ↔ n.c = o.c) (w : World) (h1 : EntOk w n) (h2 : EntOk w o) (f1 : FitC n.c) (f2 : FitC o.c) : Calls Tryd.prog 16 #[.agg (cC n), .agg (cC o)] w (IsNew b w) :=
  (rSameC_any n.c o.c n.ll o.ll n.lb o.lb w h1.u h2.u h1.b h2.b f1 f2).mono fun _ _ k => same_new hb k
theorem infoRG : (Tryd.prog.info? 35).map (·.size) = some 3 := by kernel_rfl
theorem infoRE : (Tryd.prog.info? 38).map (·.size) = some 5 := by kernel_rfl
theorem infoRD : (Tryd.prog.info? 40).map (·.size) = some 4 := by kernel_rfl
theorem infoRC : (Tryd.prog.info? 43).map (·.size) = some 2 := by kernel_rfl
theorem fit_parts {n : Ent} (h : EntFit n) : FitG n.g ∧ FitE n.e ∧ FitD n.d ∧ FitC n.c := h
end Go.Proofs.YtbllpajibhiobaaDoor
