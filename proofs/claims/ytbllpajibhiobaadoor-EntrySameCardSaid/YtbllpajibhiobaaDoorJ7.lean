/-
  Expressions: whether it may be, the walk.
-/
import Derived.Test.YtbllpajibhiobaaDoorJ6
namespace Go.Proofs.YtbllpajibhiobaaDoor
open Go.RowKit Go.Proofs.Leb Go.Proofs.Own
set_option maxRecDepth 100000
set_option maxHeartbeats 8000000

/-- a box of what came in -/
def Bx1 (w : World) (cs : Array Value) (T : TypeId) (w' : World) : Prop := New w w' ∧ w'.heap[w.heap.size]? = some (.cells cs T)
theorem Bx1.mk0 {w : World} {cs : Array Value} {T : TypeId} : Bx1 w cs T (w.alloc (.cells cs T)) := ⟨(Upd.refl _ _).alloc _, hp_new rfl⟩
theorem Bx1.new {w a b : World} {cs : Array Value} {T : TypeId} (h : Bx1 w cs T a) (k : New a b) : Bx1 w cs T b := ⟨New.trans h.1 k, hp1 h.2 k⟩
theorem Bx1.at {w a : World} {cs : Array Value} {T : TypeId} (h : Bx1 w cs T a) (i : Nat) {v : Value} (hv : cs[i]? = some v) : a.cell? ⟨w.heap.size, i, none⟩ = some v := cellAt h.2 i hv
theorem same_new {q : Prop} {b : Bool} (hb : b = true ↔ q) {w : World} {e : Ending} {w' : World} (h : SameP q w e w') : IsNew b w e w' := by
  obtain ⟨c, rfl, hc, hn⟩ := h
  have : c = b := by
    cases c <;> cases b <;> simp_all
  subst this
  exact ⟨rfl, hn⟩
theorem rightGo_len {n : List UInt8} {p c : Int} : (behV n p c).length ≤ n.length + 1 := by
  unfold behV
  split
  · simp
  · split
    · simp; try omega
    · split
      · simp; try omega
      · omega
theorem pRight8_any {B : Nat → Prop} (v : Value) (xs : List Ins) (w : World) (hr : RdE 12 EP w B v xs) (hf : FitL xs) (hw : ∀ x ∈ xs, WfI x) :
    Calls Tryd.prog 33 #[v] w (SameP (RightX xs) w) := by
  have hp : Tryd.prog.stoodInHeld 87 = false := by kernel_rfl
  have hg : Tryd.prog.eqGuardType Tryd.prog.depth 87 = false := by kernel_rfl
  have HRD := hid hr
  obtain ⟨a, cap, rfl, hat⟩ := insP_at hr
  have hcap : xs.length ≤ cap := by
    obtain ⟨a', c', e, h, _⟩ := hr
    cases e
    exact h
  have HAT := hid hat
  have HF := hid hf.2
  have HWF := hid hw
  have HE := hid (fun w => end_any w)
  unfold OpP at HE
  have hlen : xs.length ≤ 60 := hf.1
  clear hr hat hf hw
  go_enter Tryd.func33, Tryd.ntmps33
  go_wp2_with fail
  go_loopw [3, 8] (fun v c wr => ∃ (i : Nat) (n : List UInt8), c = .int .i64 i ∧ i ≤ xs.length ∧ n.length ≤ i ∧ Bytes wr v n ∧ New w wr ∧ Fresh w v ∧ (RightX xs ↔ rightGo n (xs.take i) (xs.drop i))) (fun _ c _ => xs.length - (intOf c).toNat)
  case atStart => exact ⟨0, [], rfl, by omega, by simp, Bytes.nil _, Upd.refl _ _, (fun k h => by cases h), Iff.rfl⟩
  case round =>
    obtain ⟨i, n, rfl, hi1, hnl, hby, hnw, hfr, hgo⟩ := hrel
    have HFR := hid hfr
    have HN := hid hnw
    have HNL := hid hnl
    have HBY := hid hby
    have hnl60 : n.length ≤ 60 := by omega
    have hic : i ≤ cap := by omega
    obtain ⟨vb, vn, vc, rfl⟩ := Bytes.slice hby
    by_cases hi : i < xs.length
    · obtain ⟨b, o, l, u, rfl, hc, hl, hu, -, -⟩ := HAT.out i hi
      obtain ⟨k0, k1, k2, k3, k4, k5, k6, k7, k8, k9, k10, k11⟩ := at12P (hc.new hnw)
      have hfx := HF.out _ (List.getElem_mem hi)
      have hwx := HWF.out _ (List.getElem_mem hi)
      have HR : Hid (∀ w', New wr w' → Calls Tryd.prog 42 #[pI xs[i] l u] w' (SameP (RightQ xs[i]) w')) := fun w' h =>
        pRight_any _ _ _ w' hwx.c0 hwx.c1 ((hl.new hnw).new h) ((hu.new hnw).new h) (by have := hfx.1; omega) (by have := hfx.2.2; omega) (by have := hfx.2.1; omega) hwx.n0 hwx.n1 hwx.l0 hwx.l1
      have HM : Hid (∀ w', New wr w' → Calls Tryd.prog 43 #[.slice vb vn vc, .agg #[.int .u8 xs[i].p, .int .u32 xs[i].c]] w' (IsNew (mayV n xs[i].p xs[i].c) w')) := fun w' h =>
        may_any _ n _ _ w' (HBY.out.new h).rd (by omega)
      have HL : Hid (∀ w', New wr w' → Calls Tryd.prog 45 #[.slice (some ⟨b, o, none⟩) i cap] w' (IsNew (lastElse (xs.take i)) w')) := fun w' h =>
        lastIs_any _ _ w' (RdE.take (HRD.out.new EP.ok (New.trans HN.out h)) i hi1) (by simp; omega)
      have HBE : Hid (mayV n xs[i].p xs[i].c = true → ∀ w', New wr w' → Calls Tryd.prog 46 #[.slice vb vn vc, .agg #[.int .u8 xs[i].p, .int .u32 xs[i].c]] w' (Post w' (.slice vb vn vc) (behV n xs[i].p xs[i].c))) := fun hm w' h =>
        behind_any _ n _ _ w' (HBY.out.new h) (by omega) hwx.c0 hm
      have HGO : Hid (RightX xs ↔ rightGo n (xs.take i) (xs[i] :: xs.drop (i + 1))) := by
        show _ ↔ _
        rw [← List.drop_eq_getElem_cons hi]
        exact hgo
      have HTK : Hid (xs.take (i + 1) = xs.take i ++ [xs[i]]) := by show _ = _; rw [List.take_add_one, List.getElem?_eq_getElem hi]; rfl
      obtain ⟨al, cl, rfl⟩ := hl.shape
      obtain ⟨au, cu, rfl⟩ := hu.shape
      clear hc hl hu hnw hby hfr hgo hfx hwx hnl
      generalize xs[i] = m at *
      obtain ⟨p, c, k, t, i', x, y, li, nn, raw, lane, ty⟩ := m
      unfold pI at HR
      simp only at k0 k1 k2 k3 k4 k5 k6 k7 k8 k9 k10 k11 HR HM HBE
      have HB0 : Hid (Bx1 wr (cells ⟨p, c, k, t, i', x, y, li, nn, raw, lane, ty⟩ (.slice al li.length cl) (.slice au (lb ty).length cu)) 93 (wr.alloc (.cells #[.int .u8 p, .int .u32 c, .int .i64 k, .int .u8 t, .int .u32 i', .int .u32 x, .int .u32 y, .slice al li.length cl, .int .i64 nn, .string raw, .int .u8 lane, .slice au (lb ty).length cu] 93))) := Bx1.mk0
      by_cases hrq : RightQ ⟨p, c, k, t, i', x, y, li, nn, raw, lane, ty⟩
      · have HR2 : Hid (∀ w', New wr w' → Calls Tryd.prog 42 #[.agg #[.int .u8 p, .int .u32 c, .int .i64 k, .int .u8 t, .int .u32 i', .int .u32 x, .int .u32 y, .slice al li.length cl, .int .i64 nn, .string raw, .int .u8 lane, .slice au (lb ty).length cu]] w' (IsNew true w')) := fun w' h => (HR.out w' h).mono fun _ _ h => same_new (iff_of_true rfl hrq) h
        replace hrq := hid hrq
        clear HR
        cases hmv : mayV n p c with
        | false =>
        rw [hmv] at HM
        replace hmv := hid hmv
        go_wp2_with fail
        generalize wr.alloc (.cells #[_, _, _, _, _, _, _, _, _, _, _, _] 93) = w0 at *
        clear k0 k1 k2 k3 k4 k5 k6 k7 k8 k9 k10 k11
        have hn : Bx1 wr (cells ⟨p, c, k, t, i', x, y, li, nn, raw, lane, ty⟩ (.slice al li.length cl) (.slice au (lb ty).length cu)) 93 w0.drew := HB0.out.new (Upd.refl _ _).drew
        refine wp_region_noPanic ?_
        refine wp_region_held_drew (S := (Bx1 wr (cells ⟨p, c, k, t, i', x, y, li, nn, raw, lane, ty⟩ (.slice al li.length cl) (.slice au (lb ty).length cu)) 93)) (by kernel_rfl) (by first | exact hn | exact (Upd.refl _ _).drew | exact Upd.drew (by assumption)) (fun hn => ?_)
        generalize w0.drew = wd at *
        refine wpAnyH_take (i := 0) (oi := { dst := some 13, op := Op.load 93 (Operand.tmp 5), type := 93, pos := "expr.go:32", after := #[], guard := none }) (v := ?v26x1) rfl (by kernel_rfl) (by kernel_rfl) (by kernel_rfl) (fun _ _ _ h => h) (Or.inl ⟨by rfl, ?y26x1⟩) hn ?r26x1
        case y26x1 => (intro wS hS; refine load_box (x := .tmp 5) ?_ ?_ hS.2 Tryd.underlying93 rfl infoI; rfl; rfl; (try go_simp); (try with_reducible rfl))
        try simp only [Act.put, List.setIfInBounds_toArray, List.set_cons_zero, List.set_cons_succ]
        refine wpAnyH_ready (rs := [1]) (by kernel_rfl) (by simp) ?_
        refine AllReadyH.cons (o := { dst := some 14, op := Op.call { callee := Callee.value (Operand.func 42), args := #[Operand.tmp 13], argTypes := #[93] }, type := 4, pos := "expr.go:32", after := #[{ on := 0, ground := Ground.data }], guard := none }) rfl (fun K hK => ?_) AllReadyH.nil
        go_simp
        refine (HR2.out _ hn.1).mono ?_
        rintro e wq ⟨rfl, hnq⟩
        go_wp2_with fail
        have hn := hn.new hnq
        refine hK.out _ _ (by first | exact hn | exact Upd.alloc hn _) (fun hn => ?_)
        clear hK K
        try simp only [Act.put, List.setIfInBounds_toArray, List.set_cons_zero, List.set_cons_succ]
        refine wpAnyH_take (i := 2) (oi := { dst := some 15, op := Op.unOp UnOp.not 4 (Operand.tmp 14), type := 4, pos := "expr.go:32", after := #[{ on := 1, ground := Ground.data }], guard := none }) (v := ?v26x2) rfl (by kernel_rfl) (by kernel_rfl) (by kernel_rfl) (fun _ _ _ h => h) (Or.inl ⟨by rfl, ?y26x2⟩) hn ?r26x2
        case y26x2 => (intro wS hS; (try go_simp); (try with_reducible rfl))
        try simp only [Act.put, List.setIfInBounds_toArray, List.set_cons_zero, List.set_cons_succ]
        refine wpAnyH_take (i := 3) (oi := { dst := some 16, op := Op.move (Operand.tmp 15), type := 4, pos := "expr.go:32", after := #[{ on := 2, ground := Ground.data }, { on := 1, ground := Ground.chain }], guard := none }) (v := ?v26x3) rfl (by kernel_rfl) (by kernel_rfl) (by kernel_rfl) (fun _ _ _ h => h) (Or.inl ⟨by rfl, ?y26x3⟩) hn ?r26x3
        case y26x3 => (intro wS hS; (try go_simp); (try with_reducible rfl))
        try simp only [Act.put, List.setIfInBounds_toArray, List.set_cons_zero, List.set_cons_succ]
        refine wpAnyH_take (i := 4) (oi := { dst := some 17, op := Op.move (Operand.tmp 3), type := 116, pos := "expr.go:32", after := #[{ on := 3, ground := Ground.guard }], guard := some (3, false) }) (v := ?v26x4) rfl (by kernel_rfl) (by kernel_rfl) (by kernel_rfl) (fun _ _ _ h => h) (Or.inl ⟨by rfl, ?y26x4⟩) hn ?r26x4
        case y26x4 => (intro wS hS; (try go_simp); (try with_reducible rfl))
        try simp only [Act.put, List.setIfInBounds_toArray, List.set_cons_zero, List.set_cons_succ]
        refine wpAnyH_take (i := 5) (oi := { dst := some 18, op := Op.fieldAddr 93 (Operand.tmp 5) 0, type := 0, pos := "expr.go:32", after := #[{ on := 3, ground := Ground.guard }], guard := some (3, false) }) (v := ?v26x5) rfl (by kernel_rfl) (by kernel_rfl) (by kernel_rfl) (fun _ _ _ h => h) (Or.inl ⟨by rfl, ?y26x5⟩) hn ?r26x5
        case y26x5 => (intro wS hS; (try go_simp); (try with_reducible rfl))
        try simp only [Act.put, List.setIfInBounds_toArray, List.set_cons_zero, List.set_cons_succ]
        refine wpAnyH_take (i := 6) (oi := { dst := some 19, op := Op.load 87 (Operand.tmp 18), type := 87, pos := "expr.go:32", after := #[{ on := 5, ground := Ground.data }, { on := 3, ground := Ground.guard }], guard := some (3, false) }) (v := ?v26x6) rfl (by kernel_rfl) (by kernel_rfl) (by kernel_rfl) (fun _ _ _ h => h) (Or.inl ⟨by rfl, ?y26x6⟩) hn ?r26x6
        case y26x6 => (intro wS hS; have c0 : wS.cell? ⟨wr.heap.size, 0, none⟩ = some (.int .u8 p) := hS.at 0 rfl; have c1 : wS.cell? ⟨wr.heap.size, 1, none⟩ = some (.int .u32 c) := hS.at 1 rfl; (try go_simp); (try with_reducible rfl))
        try simp only [Act.put, List.setIfInBounds_toArray, List.set_cons_zero, List.set_cons_succ]
        refine wpAnyH_ready (rs := [7]) (by kernel_rfl) (by simp) ?_
        refine AllReadyH.cons (o := { dst := some 20, op := Op.call { callee := Callee.value (Operand.func 43), args := #[Operand.tmp 17, Operand.tmp 19], argTypes := #[116, 87] }, type := 4, pos := "expr.go:32", after := #[{ on := 4, ground := Ground.data }, { on := 6, ground := Ground.data }, { on := 3, ground := Ground.chain }, { on := 3, ground := Ground.guard }], guard := some (3, false) }) rfl (fun K hK => ?_) AllReadyH.nil
        go_simp
        refine (HM.out _ hn.1).mono ?_
        rintro e wm ⟨rfl, hnq⟩
        go_wp2_with fail
        have hn := hn.new hnq
        refine hK.out _ _ (by first | exact hn | exact Upd.alloc hn _) (fun hn => ?_)
        clear hK K
        try simp only [Act.put, List.setIfInBounds_toArray, List.set_cons_zero, List.set_cons_succ]
        refine wpAnyH_take (i := 8) (oi := { dst := some 21, op := Op.unOp UnOp.not 4 (Operand.tmp 20), type := 4, pos := "expr.go:32", after := #[{ on := 7, ground := Ground.data }, { on := 3, ground := Ground.guard }], guard := some (3, false) }) (v := ?v26x7) rfl (by kernel_rfl) (by kernel_rfl) (by kernel_rfl) (fun _ _ _ h => h) (Or.inl ⟨by rfl, ?y26x7⟩) hn ?r26x7
        case y26x7 => (intro wS hS; (try go_simp); (try with_reducible rfl))
        try simp only [Act.put, List.setIfInBounds_toArray, List.set_cons_zero, List.set_cons_succ]
        refine wpAnyH_take (i := 9) (oi := { dst := some 22, op := Op.pick (Operand.tmp 16) (Operand.const (Value.bool true)) (Operand.tmp 21), type := 4, pos := "expr.go:32", after := #[{ on := 3, ground := Ground.data }, { on := 8, ground := Ground.data }], guard := none }) (v := ?v26x8) rfl (by kernel_rfl) (by kernel_rfl) (by kernel_rfl) (fun _ _ _ h => h) (Or.inl ⟨by rfl, ?y26x8⟩) hn ?r26x8
        case y26x8 => (intro wS hS; (try go_simp); (try with_reducible rfl))
        try simp only [Act.put, List.setIfInBounds_toArray, List.set_cons_zero, List.set_cons_succ]
        refine wpAnyH_take (i := 10) (oi := { dst := some 23, op := Op.move (Operand.tmp 22), type := 4, pos := "expr.go:32", after := #[{ on := 9, ground := Ground.data }, { on := 7, ground := Ground.chain }], guard := none }) (v := ?v26x9) rfl (by kernel_rfl) (by kernel_rfl) (by kernel_rfl) (fun _ _ _ h => h) (Or.inl ⟨by rfl, ?y26x9⟩) hn ?r26x9
        case y26x9 => (intro wS hS; (try go_simp); (try with_reducible rfl))
        try simp only [Act.put, List.setIfInBounds_toArray, List.set_cons_zero, List.set_cons_succ]
        refine wpAnyH_take (i := 11) (oi := { dst := some 24, op := Op.fieldAddr 93 (Operand.tmp 5) 0, type := 0, pos := "expr.go:32", after := #[{ on := 10, ground := Ground.guard }], guard := some (10, false) }) (v := undef) rfl (by kernel_rfl) (by kernel_rfl) (by kernel_rfl) (fun _ _ _ h => h) (Or.inr ⟨by rfl, rfl⟩) hn ?_
        try simp only [Act.put, List.setIfInBounds_toArray, List.set_cons_zero, List.set_cons_succ]
        refine wpAnyH_take (i := 12) (oi := { dst := some 25, op := Op.load 87 (Operand.tmp 24), type := 87, pos := "expr.go:32", after := #[{ on := 11, ground := Ground.data }, { on := 10, ground := Ground.guard }], guard := some (10, false) }) (v := undef) rfl (by kernel_rfl) (by kernel_rfl) (by kernel_rfl) (fun _ _ _ h => h) (Or.inr ⟨by rfl, rfl⟩) hn ?_
        try simp only [Act.put, List.setIfInBounds_toArray, List.set_cons_zero, List.set_cons_succ]
        refine wpAnyH_take (i := 13) (oi := { dst := some 26, op := Op.call { callee := Callee.value (Operand.func 44), args := #[], argTypes := #[] }, type := 87, pos := "expr.go:32", after := #[{ on := 10, ground := Ground.chain }, { on := 10, ground := Ground.guard }], guard := some (10, false) }) (v := undef) rfl (by kernel_rfl) (by kernel_rfl) (by kernel_rfl) (fun _ _ _ h => h) (Or.inr ⟨by rfl, rfl⟩) hn ?_
        try simp only [Act.put, List.setIfInBounds_toArray, List.set_cons_zero, List.set_cons_succ]
        refine wpAnyH_take (i := 14) (oi := { dst := some 27, op := Op.binOp BinOp.eql 87 (Operand.tmp 25) (Operand.tmp 26) 87, type := 4, pos := "expr.go:32", after := #[{ on := 12, ground := Ground.data }, { on := 13, ground := Ground.data }, { on := 10, ground := Ground.guard }], guard := some (10, false) }) (v := undef) rfl (by kernel_rfl) (by kernel_rfl) (by kernel_rfl) (fun _ _ _ h => h) (Or.inr ⟨by rfl, rfl⟩) hn ?_
        try simp only [Act.put, List.setIfInBounds_toArray, List.set_cons_zero, List.set_cons_succ]
        refine wpAnyH_take (i := 15) (oi := { dst := some 28, op := Op.move (Operand.tmp 27), type := 4, pos := "expr.go:32", after := #[{ on := 14, ground := Ground.data }, { on := 13, ground := Ground.chain }, { on := 10, ground := Ground.guard }], guard := some (10, false) }) (v := undef) rfl (by kernel_rfl) (by kernel_rfl) (by kernel_rfl) (fun _ _ _ h => h) (Or.inr ⟨by rfl, rfl⟩) hn ?_
        try simp only [Act.put, List.setIfInBounds_toArray, List.set_cons_zero, List.set_cons_succ]
        refine wpAnyH_take (i := 16) (oi := { dst := some 29, op := Op.move (Operand.tmp 0), type := 50, pos := "expr.go:32", after := #[{ on := 15, ground := Ground.guard }], guard := some (15, true) }) (v := undef) rfl (by kernel_rfl) (by kernel_rfl) (by kernel_rfl) (fun _ _ _ h => h) (Or.inr ⟨by rfl, rfl⟩) hn ?_
        try simp only [Act.put, List.setIfInBounds_toArray, List.set_cons_zero, List.set_cons_succ]
        refine wpAnyH_take (i := 17) (oi := { dst := some 30, op := Op.move (Operand.tmp 4), type := 3, pos := "expr.go:32", after := #[{ on := 15, ground := Ground.guard }], guard := some (15, true) }) (v := undef) rfl (by kernel_rfl) (by kernel_rfl) (by kernel_rfl) (fun _ _ _ h => h) (Or.inr ⟨by rfl, rfl⟩) hn ?_
        try simp only [Act.put, List.setIfInBounds_toArray, List.set_cons_zero, List.set_cons_succ]
        refine wpAnyH_take (i := 18) (oi := { dst := some 31, op := Op.slice 50 (Operand.tmp 29) none (some (Operand.tmp 30)) none, type := 50, pos := "expr.go:32", after := #[{ on := 16, ground := Ground.data }, { on := 17, ground := Ground.data }, { on := 15, ground := Ground.guard }], guard := some (15, true) }) (v := undef) rfl (by kernel_rfl) (by kernel_rfl) (by kernel_rfl) (fun _ _ _ h => h) (Or.inr ⟨by rfl, rfl⟩) hn ?_
        try simp only [Act.put, List.setIfInBounds_toArray, List.set_cons_zero, List.set_cons_succ]
        refine wpAnyH_take (i := 19) (oi := { dst := some 32, op := Op.call { callee := Callee.value (Operand.func 45), args := #[Operand.tmp 31], argTypes := #[50] }, type := 4, pos := "expr.go:32", after := #[{ on := 18, ground := Ground.data }, { on := 15, ground := Ground.chain }, { on := 15, ground := Ground.guard }], guard := some (15, true) }) (v := undef) rfl (by kernel_rfl) (by kernel_rfl) (by kernel_rfl) (fun _ _ _ h => h) (Or.inr ⟨by rfl, rfl⟩) hn ?_
        try simp only [Act.put, List.setIfInBounds_toArray, List.set_cons_zero, List.set_cons_succ]
        refine wpAnyH_take (i := 20) (oi := { dst := some 33, op := Op.pick (Operand.tmp 28) (Operand.tmp 32) (Operand.const (Value.bool false)), type := 4, pos := "expr.go:32", after := #[{ on := 15, ground := Ground.data }, { on := 19, ground := Ground.data }, { on := 10, ground := Ground.guard }], guard := some (10, false) }) (v := undef) rfl (by kernel_rfl) (by kernel_rfl) (by kernel_rfl) (fun _ _ _ h => h) (Or.inr ⟨by rfl, rfl⟩) hn ?_
        try simp only [Act.put, List.setIfInBounds_toArray, List.set_cons_zero, List.set_cons_succ]
        refine wpAnyH_take (i := 21) (oi := { dst := some 34, op := Op.pick (Operand.tmp 23) (Operand.const (Value.bool true)) (Operand.tmp 33), type := 4, pos := "expr.go:32", after := #[{ on := 10, ground := Ground.data }, { on := 20, ground := Ground.data }], guard := none }) (v := ?v26x20) rfl (by kernel_rfl) (by kernel_rfl) (by kernel_rfl) (fun _ _ _ h => h) (Or.inl ⟨by rfl, ?y26x20⟩) hn ?r26x20
        case y26x20 => (intro wS hS; (try go_simp); (try with_reducible rfl))
        try simp only [Act.put, List.setIfInBounds_toArray, List.set_cons_zero, List.set_cons_succ]
        refine wpAnyH_done (by kernel_rfl) ?_ _
        refine NoPanic.normal ?_
        have HZ := hid (New.trans HN.out hn.1)
        clear hn
        go_wp2_with fail
        go_ret
        exact ⟨_, rfl, iff_of_false (by decide) (fun h => Bool.noConfusion (hmv.out.symm.trans (HGO.out.1 h).2.1)), HZ.out⟩
        | true =>
        rw [hmv] at HM
        have hmy := hid hmv
        clear hmv
        by_cases hen : p = 0 ∧ c = 11
        · obtain ⟨rfl, rfl⟩ := hen
          cases hle : lastElse (xs.take i) with
          | false =>
          rw [hle] at HL
          replace hle := hid hle
          go_wp2_with fail
          generalize wr.alloc (.cells #[_, _, _, _, _, _, _, _, _, _, _, _] 93) = w0 at *
          clear k0 k1 k2 k3 k4 k5 k6 k7 k8 k9 k10 k11
          have hn : Bx1 wr (cells ⟨0, 11, k, t, i', x, y, li, nn, raw, lane, ty⟩ (.slice al li.length cl) (.slice au (lb ty).length cu)) 93 w0.drew := HB0.out.new (Upd.refl _ _).drew
          refine wp_region_noPanic ?_
          refine wp_region_held_drew (S := (Bx1 wr (cells ⟨0, 11, k, t, i', x, y, li, nn, raw, lane, ty⟩ (.slice al li.length cl) (.slice au (lb ty).length cu)) 93)) (by kernel_rfl) (by first | exact hn | exact (Upd.refl _ _).drew | exact Upd.drew (by assumption)) (fun hn => ?_)
          generalize w0.drew = wd at *
          refine wpAnyH_take (i := 0) (oi := { dst := some 13, op := Op.load 93 (Operand.tmp 5), type := 93, pos := "expr.go:32", after := #[], guard := none }) (v := ?v27x1) rfl (by kernel_rfl) (by kernel_rfl) (by kernel_rfl) (fun _ _ _ h => h) (Or.inl ⟨by rfl, ?y27x1⟩) hn ?r27x1
          case y27x1 => (intro wS hS; refine load_box (x := .tmp 5) ?_ ?_ hS.2 Tryd.underlying93 rfl infoI; rfl; rfl; (try go_simp); (try with_reducible rfl))
          try simp only [Act.put, List.setIfInBounds_toArray, List.set_cons_zero, List.set_cons_succ]
          refine wpAnyH_ready (rs := [1]) (by kernel_rfl) (by simp) ?_
          refine AllReadyH.cons (o := { dst := some 14, op := Op.call { callee := Callee.value (Operand.func 42), args := #[Operand.tmp 13], argTypes := #[93] }, type := 4, pos := "expr.go:32", after := #[{ on := 0, ground := Ground.data }], guard := none }) rfl (fun K hK => ?_) AllReadyH.nil
          go_simp
          refine (HR2.out _ hn.1).mono ?_
          rintro e wq ⟨rfl, hnq⟩
          go_wp2_with fail
          have hn := hn.new hnq
          refine hK.out _ _ (by first | exact hn | exact Upd.alloc hn _) (fun hn => ?_)
          clear hK K
          try simp only [Act.put, List.setIfInBounds_toArray, List.set_cons_zero, List.set_cons_succ]
          refine wpAnyH_take (i := 2) (oi := { dst := some 15, op := Op.unOp UnOp.not 4 (Operand.tmp 14), type := 4, pos := "expr.go:32", after := #[{ on := 1, ground := Ground.data }], guard := none }) (v := ?v27x2) rfl (by kernel_rfl) (by kernel_rfl) (by kernel_rfl) (fun _ _ _ h => h) (Or.inl ⟨by rfl, ?y27x2⟩) hn ?r27x2
          case y27x2 => (intro wS hS; (try go_simp); (try with_reducible rfl))
          try simp only [Act.put, List.setIfInBounds_toArray, List.set_cons_zero, List.set_cons_succ]
          refine wpAnyH_take (i := 3) (oi := { dst := some 16, op := Op.move (Operand.tmp 15), type := 4, pos := "expr.go:32", after := #[{ on := 2, ground := Ground.data }, { on := 1, ground := Ground.chain }], guard := none }) (v := ?v27x3) rfl (by kernel_rfl) (by kernel_rfl) (by kernel_rfl) (fun _ _ _ h => h) (Or.inl ⟨by rfl, ?y27x3⟩) hn ?r27x3
          case y27x3 => (intro wS hS; (try go_simp); (try with_reducible rfl))
          try simp only [Act.put, List.setIfInBounds_toArray, List.set_cons_zero, List.set_cons_succ]
          refine wpAnyH_take (i := 4) (oi := { dst := some 17, op := Op.move (Operand.tmp 3), type := 116, pos := "expr.go:32", after := #[{ on := 3, ground := Ground.guard }], guard := some (3, false) }) (v := ?v27x4) rfl (by kernel_rfl) (by kernel_rfl) (by kernel_rfl) (fun _ _ _ h => h) (Or.inl ⟨by rfl, ?y27x4⟩) hn ?r27x4
          case y27x4 => (intro wS hS; (try go_simp); (try with_reducible rfl))
          try simp only [Act.put, List.setIfInBounds_toArray, List.set_cons_zero, List.set_cons_succ]
          refine wpAnyH_take (i := 5) (oi := { dst := some 18, op := Op.fieldAddr 93 (Operand.tmp 5) 0, type := 0, pos := "expr.go:32", after := #[{ on := 3, ground := Ground.guard }], guard := some (3, false) }) (v := ?v27x5) rfl (by kernel_rfl) (by kernel_rfl) (by kernel_rfl) (fun _ _ _ h => h) (Or.inl ⟨by rfl, ?y27x5⟩) hn ?r27x5
          case y27x5 => (intro wS hS; (try go_simp); (try with_reducible rfl))
          try simp only [Act.put, List.setIfInBounds_toArray, List.set_cons_zero, List.set_cons_succ]
          refine wpAnyH_take (i := 6) (oi := { dst := some 19, op := Op.load 87 (Operand.tmp 18), type := 87, pos := "expr.go:32", after := #[{ on := 5, ground := Ground.data }, { on := 3, ground := Ground.guard }], guard := some (3, false) }) (v := ?v27x6) rfl (by kernel_rfl) (by kernel_rfl) (by kernel_rfl) (fun _ _ _ h => h) (Or.inl ⟨by rfl, ?y27x6⟩) hn ?r27x6
          case y27x6 => (intro wS hS; have c0 : wS.cell? ⟨wr.heap.size, 0, none⟩ = some (.int .u8 0) := hS.at 0 rfl; have c1 : wS.cell? ⟨wr.heap.size, 1, none⟩ = some (.int .u32 11) := hS.at 1 rfl; (try go_simp); (try with_reducible rfl))
          try simp only [Act.put, List.setIfInBounds_toArray, List.set_cons_zero, List.set_cons_succ]
          refine wpAnyH_ready (rs := [7]) (by kernel_rfl) (by simp) ?_
          refine AllReadyH.cons (o := { dst := some 20, op := Op.call { callee := Callee.value (Operand.func 43), args := #[Operand.tmp 17, Operand.tmp 19], argTypes := #[116, 87] }, type := 4, pos := "expr.go:32", after := #[{ on := 4, ground := Ground.data }, { on := 6, ground := Ground.data }, { on := 3, ground := Ground.chain }, { on := 3, ground := Ground.guard }], guard := some (3, false) }) rfl (fun K hK => ?_) AllReadyH.nil
          go_simp
          refine (HM.out _ hn.1).mono ?_
          rintro e wm ⟨rfl, hnq⟩
          go_wp2_with fail
          have hn := hn.new hnq
          refine hK.out _ _ (by first | exact hn | exact Upd.alloc hn _) (fun hn => ?_)
          clear hK K
          try simp only [Act.put, List.setIfInBounds_toArray, List.set_cons_zero, List.set_cons_succ]
          refine wpAnyH_take (i := 8) (oi := { dst := some 21, op := Op.unOp UnOp.not 4 (Operand.tmp 20), type := 4, pos := "expr.go:32", after := #[{ on := 7, ground := Ground.data }, { on := 3, ground := Ground.guard }], guard := some (3, false) }) (v := ?v27x7) rfl (by kernel_rfl) (by kernel_rfl) (by kernel_rfl) (fun _ _ _ h => h) (Or.inl ⟨by rfl, ?y27x7⟩) hn ?r27x7
          case y27x7 => (intro wS hS; (try go_simp); (try with_reducible rfl))
          try simp only [Act.put, List.setIfInBounds_toArray, List.set_cons_zero, List.set_cons_succ]
          refine wpAnyH_take (i := 9) (oi := { dst := some 22, op := Op.pick (Operand.tmp 16) (Operand.const (Value.bool true)) (Operand.tmp 21), type := 4, pos := "expr.go:32", after := #[{ on := 3, ground := Ground.data }, { on := 8, ground := Ground.data }], guard := none }) (v := ?v27x8) rfl (by kernel_rfl) (by kernel_rfl) (by kernel_rfl) (fun _ _ _ h => h) (Or.inl ⟨by rfl, ?y27x8⟩) hn ?r27x8
          case y27x8 => (intro wS hS; (try go_simp); (try with_reducible rfl))
          try simp only [Act.put, List.setIfInBounds_toArray, List.set_cons_zero, List.set_cons_succ]
          refine wpAnyH_take (i := 10) (oi := { dst := some 23, op := Op.move (Operand.tmp 22), type := 4, pos := "expr.go:32", after := #[{ on := 9, ground := Ground.data }, { on := 7, ground := Ground.chain }], guard := none }) (v := ?v27x9) rfl (by kernel_rfl) (by kernel_rfl) (by kernel_rfl) (fun _ _ _ h => h) (Or.inl ⟨by rfl, ?y27x9⟩) hn ?r27x9
          case y27x9 => (intro wS hS; (try go_simp); (try with_reducible rfl))
          try simp only [Act.put, List.setIfInBounds_toArray, List.set_cons_zero, List.set_cons_succ]
          refine wpAnyH_take (i := 11) (oi := { dst := some 24, op := Op.fieldAddr 93 (Operand.tmp 5) 0, type := 0, pos := "expr.go:32", after := #[{ on := 10, ground := Ground.guard }], guard := some (10, false) }) (v := ?v27x10) rfl (by kernel_rfl) (by kernel_rfl) (by kernel_rfl) (fun _ _ _ h => h) (Or.inl ⟨by rfl, ?y27x10⟩) hn ?r27x10
          case y27x10 => (intro wS hS; (try go_simp); (try with_reducible rfl))
          try simp only [Act.put, List.setIfInBounds_toArray, List.set_cons_zero, List.set_cons_succ]
          refine wpAnyH_take (i := 12) (oi := { dst := some 25, op := Op.load 87 (Operand.tmp 24), type := 87, pos := "expr.go:32", after := #[{ on := 11, ground := Ground.data }, { on := 10, ground := Ground.guard }], guard := some (10, false) }) (v := ?v27x11) rfl (by kernel_rfl) (by kernel_rfl) (by kernel_rfl) (fun _ _ _ h => h) (Or.inl ⟨by rfl, ?y27x11⟩) hn ?r27x11
          case y27x11 => (intro wS hS; have c0 : wS.cell? ⟨wr.heap.size, 0, none⟩ = some (.int .u8 0) := hS.at 0 rfl; have c1 : wS.cell? ⟨wr.heap.size, 1, none⟩ = some (.int .u32 11) := hS.at 1 rfl; (try go_simp); (try with_reducible rfl))
          try simp only [Act.put, List.setIfInBounds_toArray, List.set_cons_zero, List.set_cons_succ]
          refine wpAnyH_ready (rs := [13]) (by kernel_rfl) (by simp) ?_
          refine AllReadyH.cons (o := { dst := some 26, op := Op.call { callee := Callee.value (Operand.func 44), args := #[], argTypes := #[] }, type := 87, pos := "expr.go:32", after := #[{ on := 10, ground := Ground.chain }, { on := 10, ground := Ground.guard }], guard := some (10, false) }) rfl (fun K hK => ?_) AllReadyH.nil
          go_simp
          refine (HE.out _).mono ?_
          rintro e wn ⟨rfl, hnq⟩
          go_wp2_with fail
          have hn := hn.new hnq
          refine hK.out _ _ (by first | exact hn | exact Upd.alloc hn _) (fun hn => ?_)
          clear hK K
          try simp only [Act.put, List.setIfInBounds_toArray, List.set_cons_zero, List.set_cons_succ]
          refine wpAnyH_take (i := 14) (oi := { dst := some 27, op := Op.binOp BinOp.eql 87 (Operand.tmp 25) (Operand.tmp 26) 87, type := 4, pos := "expr.go:32", after := #[{ on := 12, ground := Ground.data }, { on := 13, ground := Ground.data }, { on := 10, ground := Ground.guard }], guard := some (10, false) }) (v := ?v27x12) rfl (by kernel_rfl) (by kernel_rfl) (by kernel_rfl) (fun _ _ _ h => h) (Or.inl ⟨by rfl, ?y27x12⟩) hn ?r27x12
          case y27x12 => (intro wS hS; go_simp; (try go_simp); (try with_reducible rfl))
          try simp only [Act.put, List.setIfInBounds_toArray, List.set_cons_zero, List.set_cons_succ]
          refine wpAnyH_take (i := 15) (oi := { dst := some 28, op := Op.move (Operand.tmp 27), type := 4, pos := "expr.go:32", after := #[{ on := 14, ground := Ground.data }, { on := 13, ground := Ground.chain }, { on := 10, ground := Ground.guard }], guard := some (10, false) }) (v := ?v27x13) rfl (by kernel_rfl) (by kernel_rfl) (by kernel_rfl) (fun _ _ _ h => h) (Or.inl ⟨by rfl, ?y27x13⟩) hn ?r27x13
          case y27x13 => (intro wS hS; (try go_simp); (try with_reducible rfl))
          try simp only [Act.put, List.setIfInBounds_toArray, List.set_cons_zero, List.set_cons_succ]
          refine wpAnyH_take (i := 16) (oi := { dst := some 29, op := Op.move (Operand.tmp 0), type := 50, pos := "expr.go:32", after := #[{ on := 15, ground := Ground.guard }], guard := some (15, true) }) (v := ?v27x14) rfl (by kernel_rfl) (by kernel_rfl) (by kernel_rfl) (fun _ _ _ h => h) (Or.inl ⟨by rfl, ?y27x14⟩) hn ?r27x14
          case y27x14 => (intro wS hS; (try go_simp); (try with_reducible rfl))
          try simp only [Act.put, List.setIfInBounds_toArray, List.set_cons_zero, List.set_cons_succ]
          refine wpAnyH_take (i := 17) (oi := { dst := some 30, op := Op.move (Operand.tmp 4), type := 3, pos := "expr.go:32", after := #[{ on := 15, ground := Ground.guard }], guard := some (15, true) }) (v := ?v27x15) rfl (by kernel_rfl) (by kernel_rfl) (by kernel_rfl) (fun _ _ _ h => h) (Or.inl ⟨by rfl, ?y27x15⟩) hn ?r27x15
          case y27x15 => (intro wS hS; (try go_simp); (try with_reducible rfl))
          try simp only [Act.put, List.setIfInBounds_toArray, List.set_cons_zero, List.set_cons_succ]
          refine wpAnyH_take (i := 18) (oi := { dst := some 31, op := Op.slice 50 (Operand.tmp 29) none (some (Operand.tmp 30)) none, type := 50, pos := "expr.go:32", after := #[{ on := 16, ground := Ground.data }, { on := 17, ground := Ground.data }, { on := 15, ground := Ground.guard }], guard := some (15, true) }) (v := ?v27x16) rfl (by kernel_rfl) (by kernel_rfl) (by kernel_rfl) (fun _ _ _ h => h) (Or.inl ⟨by rfl, ?y27x16⟩) hn ?r27x16
          case y27x16 => (intro wS hS; (try go_simp); (try with_reducible rfl))
          try simp only [Act.put, List.setIfInBounds_toArray, List.set_cons_zero, List.set_cons_succ]
          refine wpAnyH_ready (rs := [19]) (by kernel_rfl) (by simp) ?_
          refine AllReadyH.cons (o := { dst := some 32, op := Op.call { callee := Callee.value (Operand.func 45), args := #[Operand.tmp 31], argTypes := #[50] }, type := 4, pos := "expr.go:32", after := #[{ on := 18, ground := Ground.data }, { on := 15, ground := Ground.chain }, { on := 15, ground := Ground.guard }], guard := some (15, true) }) rfl (fun K hK => ?_) AllReadyH.nil
          go_simp
          refine (HL.out _ hn.1).mono ?_
          rintro e wo ⟨rfl, hnq⟩
          go_wp2_with fail
          have hn := hn.new hnq
          refine hK.out _ _ (by first | exact hn | exact Upd.alloc hn _) (fun hn => ?_)
          clear hK K
          try simp only [Act.put, List.setIfInBounds_toArray, List.set_cons_zero, List.set_cons_succ]
          refine wpAnyH_take (i := 20) (oi := { dst := some 33, op := Op.pick (Operand.tmp 28) (Operand.tmp 32) (Operand.const (Value.bool false)), type := 4, pos := "expr.go:32", after := #[{ on := 15, ground := Ground.data }, { on := 19, ground := Ground.data }, { on := 10, ground := Ground.guard }], guard := some (10, false) }) (v := ?v27x17) rfl (by kernel_rfl) (by kernel_rfl) (by kernel_rfl) (fun _ _ _ h => h) (Or.inl ⟨by rfl, ?y27x17⟩) hn ?r27x17
          case y27x17 => (intro wS hS; (try go_simp); (try with_reducible rfl))
          try simp only [Act.put, List.setIfInBounds_toArray, List.set_cons_zero, List.set_cons_succ]
          refine wpAnyH_take (i := 21) (oi := { dst := some 34, op := Op.pick (Operand.tmp 23) (Operand.const (Value.bool true)) (Operand.tmp 33), type := 4, pos := "expr.go:32", after := #[{ on := 10, ground := Ground.data }, { on := 20, ground := Ground.data }], guard := none }) (v := ?v27x18) rfl (by kernel_rfl) (by kernel_rfl) (by kernel_rfl) (fun _ _ _ h => h) (Or.inl ⟨by rfl, ?y27x18⟩) hn ?r27x18
          case y27x18 => (intro wS hS; (try go_simp); (try with_reducible rfl))
          try simp only [Act.put, List.setIfInBounds_toArray, List.set_cons_zero, List.set_cons_succ]
          refine wpAnyH_done (by kernel_rfl) ?_ _
          refine NoPanic.normal ?_
          have HZ := hid hn
          clear hn
          have z0 : wo.cell? ⟨wr.heap.size, 0, none⟩ = some (.int .u8 0) := HZ.out.at 0 rfl
          have z1 : wo.cell? ⟨wr.heap.size, 1, none⟩ = some (.int .u32 11) := HZ.out.at 1 rfl
          go_wp2_with fail
          refine (HBE.out hmy.out _ HZ.out.1).mono ?_
          rintro e wp ⟨v', rfl, hby2, had⟩
          have HBY2 := hid hby2
          have HN2 := hid (Upd.newAdds (New.trans HN.out HZ.out.1) HFR.out had)
          have HF2 := hid (Fresh.adds HFR.out (New.trans HN.out HZ.out.1).size had)
          obtain ⟨vb2, vn2, vc2, rfl⟩ := Bytes.slice hby2
          clear hby2 had z0 z1
          go_wp2_with fail
          go_roundw
          case rel => exact ⟨i + 1, _, by go_num, by omega, Nat.le_trans rightGo_len (Nat.succ_le_succ HNL.out), HBY2.out, HN2.out, HF2.out, by rw [HTK.out]; exact HGO.out.trans ⟨fun h => h.2.2.2, fun h => ⟨hrq.out, hmy.out, (fun h => Bool.noConfusion (hle.out.symm.trans h.2)), h⟩⟩⟩
          case measure => simp [intOf]; omega
          | true =>
          rw [hle] at HL
          replace hle := hid hle
          go_wp2_with fail
          generalize wr.alloc (.cells #[_, _, _, _, _, _, _, _, _, _, _, _] 93) = w0 at *
          clear k0 k1 k2 k3 k4 k5 k6 k7 k8 k9 k10 k11
          have hn : Bx1 wr (cells ⟨0, 11, k, t, i', x, y, li, nn, raw, lane, ty⟩ (.slice al li.length cl) (.slice au (lb ty).length cu)) 93 w0.drew := HB0.out.new (Upd.refl _ _).drew
          refine wp_region_noPanic ?_
          refine wp_region_held_drew (S := (Bx1 wr (cells ⟨0, 11, k, t, i', x, y, li, nn, raw, lane, ty⟩ (.slice al li.length cl) (.slice au (lb ty).length cu)) 93)) (by kernel_rfl) (by first | exact hn | exact (Upd.refl _ _).drew | exact Upd.drew (by assumption)) (fun hn => ?_)
          generalize w0.drew = wd at *
          refine wpAnyH_take (i := 0) (oi := { dst := some 13, op := Op.load 93 (Operand.tmp 5), type := 93, pos := "expr.go:32", after := #[], guard := none }) (v := ?v28x1) rfl (by kernel_rfl) (by kernel_rfl) (by kernel_rfl) (fun _ _ _ h => h) (Or.inl ⟨by rfl, ?y28x1⟩) hn ?r28x1
          case y28x1 => (intro wS hS; refine load_box (x := .tmp 5) ?_ ?_ hS.2 Tryd.underlying93 rfl infoI; rfl; rfl; (try go_simp); (try with_reducible rfl))
          try simp only [Act.put, List.setIfInBounds_toArray, List.set_cons_zero, List.set_cons_succ]
          refine wpAnyH_ready (rs := [1]) (by kernel_rfl) (by simp) ?_
          refine AllReadyH.cons (o := { dst := some 14, op := Op.call { callee := Callee.value (Operand.func 42), args := #[Operand.tmp 13], argTypes := #[93] }, type := 4, pos := "expr.go:32", after := #[{ on := 0, ground := Ground.data }], guard := none }) rfl (fun K hK => ?_) AllReadyH.nil
          go_simp
          refine (HR2.out _ hn.1).mono ?_
          rintro e wq ⟨rfl, hnq⟩
          go_wp2_with fail
          have hn := hn.new hnq
          refine hK.out _ _ (by first | exact hn | exact Upd.alloc hn _) (fun hn => ?_)
          clear hK K
          try simp only [Act.put, List.setIfInBounds_toArray, List.set_cons_zero, List.set_cons_succ]
          refine wpAnyH_take (i := 2) (oi := { dst := some 15, op := Op.unOp UnOp.not 4 (Operand.tmp 14), type := 4, pos := "expr.go:32", after := #[{ on := 1, ground := Ground.data }], guard := none }) (v := ?v28x2) rfl (by kernel_rfl) (by kernel_rfl) (by kernel_rfl) (fun _ _ _ h => h) (Or.inl ⟨by rfl, ?y28x2⟩) hn ?r28x2
          case y28x2 => (intro wS hS; (try go_simp); (try with_reducible rfl))
          try simp only [Act.put, List.setIfInBounds_toArray, List.set_cons_zero, List.set_cons_succ]
          refine wpAnyH_take (i := 3) (oi := { dst := some 16, op := Op.move (Operand.tmp 15), type := 4, pos := "expr.go:32", after := #[{ on := 2, ground := Ground.data }, { on := 1, ground := Ground.chain }], guard := none }) (v := ?v28x3) rfl (by kernel_rfl) (by kernel_rfl) (by kernel_rfl) (fun _ _ _ h => h) (Or.inl ⟨by rfl, ?y28x3⟩) hn ?r28x3
          case y28x3 => (intro wS hS; (try go_simp); (try with_reducible rfl))
          try simp only [Act.put, List.setIfInBounds_toArray, List.set_cons_zero, List.set_cons_succ]
          refine wpAnyH_take (i := 4) (oi := { dst := some 17, op := Op.move (Operand.tmp 3), type := 116, pos := "expr.go:32", after := #[{ on := 3, ground := Ground.guard }], guard := some (3, false) }) (v := ?v28x4) rfl (by kernel_rfl) (by kernel_rfl) (by kernel_rfl) (fun _ _ _ h => h) (Or.inl ⟨by rfl, ?y28x4⟩) hn ?r28x4
          case y28x4 => (intro wS hS; (try go_simp); (try with_reducible rfl))
          try simp only [Act.put, List.setIfInBounds_toArray, List.set_cons_zero, List.set_cons_succ]
          refine wpAnyH_take (i := 5) (oi := { dst := some 18, op := Op.fieldAddr 93 (Operand.tmp 5) 0, type := 0, pos := "expr.go:32", after := #[{ on := 3, ground := Ground.guard }], guard := some (3, false) }) (v := ?v28x5) rfl (by kernel_rfl) (by kernel_rfl) (by kernel_rfl) (fun _ _ _ h => h) (Or.inl ⟨by rfl, ?y28x5⟩) hn ?r28x5
          case y28x5 => (intro wS hS; (try go_simp); (try with_reducible rfl))
          try simp only [Act.put, List.setIfInBounds_toArray, List.set_cons_zero, List.set_cons_succ]
          refine wpAnyH_take (i := 6) (oi := { dst := some 19, op := Op.load 87 (Operand.tmp 18), type := 87, pos := "expr.go:32", after := #[{ on := 5, ground := Ground.data }, { on := 3, ground := Ground.guard }], guard := some (3, false) }) (v := ?v28x6) rfl (by kernel_rfl) (by kernel_rfl) (by kernel_rfl) (fun _ _ _ h => h) (Or.inl ⟨by rfl, ?y28x6⟩) hn ?r28x6
          case y28x6 => (intro wS hS; have c0 : wS.cell? ⟨wr.heap.size, 0, none⟩ = some (.int .u8 0) := hS.at 0 rfl; have c1 : wS.cell? ⟨wr.heap.size, 1, none⟩ = some (.int .u32 11) := hS.at 1 rfl; (try go_simp); (try with_reducible rfl))
          try simp only [Act.put, List.setIfInBounds_toArray, List.set_cons_zero, List.set_cons_succ]
          refine wpAnyH_ready (rs := [7]) (by kernel_rfl) (by simp) ?_
          refine AllReadyH.cons (o := { dst := some 20, op := Op.call { callee := Callee.value (Operand.func 43), args := #[Operand.tmp 17, Operand.tmp 19], argTypes := #[116, 87] }, type := 4, pos := "expr.go:32", after := #[{ on := 4, ground := Ground.data }, { on := 6, ground := Ground.data }, { on := 3, ground := Ground.chain }, { on := 3, ground := Ground.guard }], guard := some (3, false) }) rfl (fun K hK => ?_) AllReadyH.nil
          go_simp
          refine (HM.out _ hn.1).mono ?_
          rintro e wm ⟨rfl, hnq⟩
          go_wp2_with fail
          have hn := hn.new hnq
          refine hK.out _ _ (by first | exact hn | exact Upd.alloc hn _) (fun hn => ?_)
          clear hK K
          try simp only [Act.put, List.setIfInBounds_toArray, List.set_cons_zero, List.set_cons_succ]
          refine wpAnyH_take (i := 8) (oi := { dst := some 21, op := Op.unOp UnOp.not 4 (Operand.tmp 20), type := 4, pos := "expr.go:32", after := #[{ on := 7, ground := Ground.data }, { on := 3, ground := Ground.guard }], guard := some (3, false) }) (v := ?v28x7) rfl (by kernel_rfl) (by kernel_rfl) (by kernel_rfl) (fun _ _ _ h => h) (Or.inl ⟨by rfl, ?y28x7⟩) hn ?r28x7
          case y28x7 => (intro wS hS; (try go_simp); (try with_reducible rfl))
          try simp only [Act.put, List.setIfInBounds_toArray, List.set_cons_zero, List.set_cons_succ]
          refine wpAnyH_take (i := 9) (oi := { dst := some 22, op := Op.pick (Operand.tmp 16) (Operand.const (Value.bool true)) (Operand.tmp 21), type := 4, pos := "expr.go:32", after := #[{ on := 3, ground := Ground.data }, { on := 8, ground := Ground.data }], guard := none }) (v := ?v28x8) rfl (by kernel_rfl) (by kernel_rfl) (by kernel_rfl) (fun _ _ _ h => h) (Or.inl ⟨by rfl, ?y28x8⟩) hn ?r28x8
          case y28x8 => (intro wS hS; (try go_simp); (try with_reducible rfl))
          try simp only [Act.put, List.setIfInBounds_toArray, List.set_cons_zero, List.set_cons_succ]
          refine wpAnyH_take (i := 10) (oi := { dst := some 23, op := Op.move (Operand.tmp 22), type := 4, pos := "expr.go:32", after := #[{ on := 9, ground := Ground.data }, { on := 7, ground := Ground.chain }], guard := none }) (v := ?v28x9) rfl (by kernel_rfl) (by kernel_rfl) (by kernel_rfl) (fun _ _ _ h => h) (Or.inl ⟨by rfl, ?y28x9⟩) hn ?r28x9
          case y28x9 => (intro wS hS; (try go_simp); (try with_reducible rfl))
          try simp only [Act.put, List.setIfInBounds_toArray, List.set_cons_zero, List.set_cons_succ]
          refine wpAnyH_take (i := 11) (oi := { dst := some 24, op := Op.fieldAddr 93 (Operand.tmp 5) 0, type := 0, pos := "expr.go:32", after := #[{ on := 10, ground := Ground.guard }], guard := some (10, false) }) (v := ?v28x10) rfl (by kernel_rfl) (by kernel_rfl) (by kernel_rfl) (fun _ _ _ h => h) (Or.inl ⟨by rfl, ?y28x10⟩) hn ?r28x10
          case y28x10 => (intro wS hS; (try go_simp); (try with_reducible rfl))
          try simp only [Act.put, List.setIfInBounds_toArray, List.set_cons_zero, List.set_cons_succ]
          refine wpAnyH_take (i := 12) (oi := { dst := some 25, op := Op.load 87 (Operand.tmp 24), type := 87, pos := "expr.go:32", after := #[{ on := 11, ground := Ground.data }, { on := 10, ground := Ground.guard }], guard := some (10, false) }) (v := ?v28x11) rfl (by kernel_rfl) (by kernel_rfl) (by kernel_rfl) (fun _ _ _ h => h) (Or.inl ⟨by rfl, ?y28x11⟩) hn ?r28x11
          case y28x11 => (intro wS hS; have c0 : wS.cell? ⟨wr.heap.size, 0, none⟩ = some (.int .u8 0) := hS.at 0 rfl; have c1 : wS.cell? ⟨wr.heap.size, 1, none⟩ = some (.int .u32 11) := hS.at 1 rfl; (try go_simp); (try with_reducible rfl))
          try simp only [Act.put, List.setIfInBounds_toArray, List.set_cons_zero, List.set_cons_succ]
          refine wpAnyH_ready (rs := [13]) (by kernel_rfl) (by simp) ?_
          refine AllReadyH.cons (o := { dst := some 26, op := Op.call { callee := Callee.value (Operand.func 44), args := #[], argTypes := #[] }, type := 87, pos := "expr.go:32", after := #[{ on := 10, ground := Ground.chain }, { on := 10, ground := Ground.guard }], guard := some (10, false) }) rfl (fun K hK => ?_) AllReadyH.nil
          go_simp
          refine (HE.out _).mono ?_
          rintro e wn ⟨rfl, hnq⟩
          go_wp2_with fail
          have hn := hn.new hnq
          refine hK.out _ _ (by first | exact hn | exact Upd.alloc hn _) (fun hn => ?_)
          clear hK K
          try simp only [Act.put, List.setIfInBounds_toArray, List.set_cons_zero, List.set_cons_succ]
          refine wpAnyH_take (i := 14) (oi := { dst := some 27, op := Op.binOp BinOp.eql 87 (Operand.tmp 25) (Operand.tmp 26) 87, type := 4, pos := "expr.go:32", after := #[{ on := 12, ground := Ground.data }, { on := 13, ground := Ground.data }, { on := 10, ground := Ground.guard }], guard := some (10, false) }) (v := ?v28x12) rfl (by kernel_rfl) (by kernel_rfl) (by kernel_rfl) (fun _ _ _ h => h) (Or.inl ⟨by rfl, ?y28x12⟩) hn ?r28x12
          case y28x12 => (intro wS hS; go_simp; (try go_simp); (try with_reducible rfl))
          try simp only [Act.put, List.setIfInBounds_toArray, List.set_cons_zero, List.set_cons_succ]
          refine wpAnyH_take (i := 15) (oi := { dst := some 28, op := Op.move (Operand.tmp 27), type := 4, pos := "expr.go:32", after := #[{ on := 14, ground := Ground.data }, { on := 13, ground := Ground.chain }, { on := 10, ground := Ground.guard }], guard := some (10, false) }) (v := ?v28x13) rfl (by kernel_rfl) (by kernel_rfl) (by kernel_rfl) (fun _ _ _ h => h) (Or.inl ⟨by rfl, ?y28x13⟩) hn ?r28x13
          case y28x13 => (intro wS hS; (try go_simp); (try with_reducible rfl))
          try simp only [Act.put, List.setIfInBounds_toArray, List.set_cons_zero, List.set_cons_succ]
          refine wpAnyH_take (i := 16) (oi := { dst := some 29, op := Op.move (Operand.tmp 0), type := 50, pos := "expr.go:32", after := #[{ on := 15, ground := Ground.guard }], guard := some (15, true) }) (v := ?v28x14) rfl (by kernel_rfl) (by kernel_rfl) (by kernel_rfl) (fun _ _ _ h => h) (Or.inl ⟨by rfl, ?y28x14⟩) hn ?r28x14
          case y28x14 => (intro wS hS; (try go_simp); (try with_reducible rfl))
          try simp only [Act.put, List.setIfInBounds_toArray, List.set_cons_zero, List.set_cons_succ]
          refine wpAnyH_take (i := 17) (oi := { dst := some 30, op := Op.move (Operand.tmp 4), type := 3, pos := "expr.go:32", after := #[{ on := 15, ground := Ground.guard }], guard := some (15, true) }) (v := ?v28x15) rfl (by kernel_rfl) (by kernel_rfl) (by kernel_rfl) (fun _ _ _ h => h) (Or.inl ⟨by rfl, ?y28x15⟩) hn ?r28x15
          case y28x15 => (intro wS hS; (try go_simp); (try with_reducible rfl))
          try simp only [Act.put, List.setIfInBounds_toArray, List.set_cons_zero, List.set_cons_succ]
          refine wpAnyH_take (i := 18) (oi := { dst := some 31, op := Op.slice 50 (Operand.tmp 29) none (some (Operand.tmp 30)) none, type := 50, pos := "expr.go:32", after := #[{ on := 16, ground := Ground.data }, { on := 17, ground := Ground.data }, { on := 15, ground := Ground.guard }], guard := some (15, true) }) (v := ?v28x16) rfl (by kernel_rfl) (by kernel_rfl) (by kernel_rfl) (fun _ _ _ h => h) (Or.inl ⟨by rfl, ?y28x16⟩) hn ?r28x16
          case y28x16 => (intro wS hS; (try go_simp); (try with_reducible rfl))
          try simp only [Act.put, List.setIfInBounds_toArray, List.set_cons_zero, List.set_cons_succ]
          refine wpAnyH_ready (rs := [19]) (by kernel_rfl) (by simp) ?_
          refine AllReadyH.cons (o := { dst := some 32, op := Op.call { callee := Callee.value (Operand.func 45), args := #[Operand.tmp 31], argTypes := #[50] }, type := 4, pos := "expr.go:32", after := #[{ on := 18, ground := Ground.data }, { on := 15, ground := Ground.chain }, { on := 15, ground := Ground.guard }], guard := some (15, true) }) rfl (fun K hK => ?_) AllReadyH.nil
          go_simp
          refine (HL.out _ hn.1).mono ?_
          rintro e wo ⟨rfl, hnq⟩
          go_wp2_with fail
          have hn := hn.new hnq
          refine hK.out _ _ (by first | exact hn | exact Upd.alloc hn _) (fun hn => ?_)
          clear hK K
          try simp only [Act.put, List.setIfInBounds_toArray, List.set_cons_zero, List.set_cons_succ]
          refine wpAnyH_take (i := 20) (oi := { dst := some 33, op := Op.pick (Operand.tmp 28) (Operand.tmp 32) (Operand.const (Value.bool false)), type := 4, pos := "expr.go:32", after := #[{ on := 15, ground := Ground.data }, { on := 19, ground := Ground.data }, { on := 10, ground := Ground.guard }], guard := some (10, false) }) (v := ?v28x17) rfl (by kernel_rfl) (by kernel_rfl) (by kernel_rfl) (fun _ _ _ h => h) (Or.inl ⟨by rfl, ?y28x17⟩) hn ?r28x17
          case y28x17 => (intro wS hS; (try go_simp); (try with_reducible rfl))
          try simp only [Act.put, List.setIfInBounds_toArray, List.set_cons_zero, List.set_cons_succ]
          refine wpAnyH_take (i := 21) (oi := { dst := some 34, op := Op.pick (Operand.tmp 23) (Operand.const (Value.bool true)) (Operand.tmp 33), type := 4, pos := "expr.go:32", after := #[{ on := 10, ground := Ground.data }, { on := 20, ground := Ground.data }], guard := none }) (v := ?v28x18) rfl (by kernel_rfl) (by kernel_rfl) (by kernel_rfl) (fun _ _ _ h => h) (Or.inl ⟨by rfl, ?y28x18⟩) hn ?r28x18
          case y28x18 => (intro wS hS; (try go_simp); (try with_reducible rfl))
          try simp only [Act.put, List.setIfInBounds_toArray, List.set_cons_zero, List.set_cons_succ]
          refine wpAnyH_done (by kernel_rfl) ?_ _
          refine NoPanic.normal ?_
          have HZ := hid (New.trans HN.out hn.1)
          clear hn
          go_wp2_with fail
          go_ret
          exact ⟨_, rfl, iff_of_false (by decide) (fun h => (HGO.out.1 h).2.2.1 ⟨rfl, hle.out⟩), HZ.out⟩
        · replace hen := hid hen
          by_cases h0 : p = 0
          · subst h0
            have g2 : (c == 11) = false := beq_eq_false_iff_ne.2 fun e => hen.out ⟨rfl, e⟩
            have g4 : (c = 11) = False := eq_false fun e => hen.out ⟨rfl, e⟩
            go_wp2_with fail
            generalize wr.alloc (.cells #[_, _, _, _, _, _, _, _, _, _, _, _] 93) = w0 at *
            clear k0 k1 k2 k3 k4 k5 k6 k7 k8 k9 k10 k11
            have hn : Bx1 wr (cells ⟨0, c, k, t, i', x, y, li, nn, raw, lane, ty⟩ (.slice al li.length cl) (.slice au (lb ty).length cu)) 93 w0.drew := HB0.out.new (Upd.refl _ _).drew
            refine wp_region_noPanic ?_
            refine wp_region_held_drew (S := (Bx1 wr (cells ⟨0, c, k, t, i', x, y, li, nn, raw, lane, ty⟩ (.slice al li.length cl) (.slice au (lb ty).length cu)) 93)) (by kernel_rfl) (by first | exact hn | exact (Upd.refl _ _).drew | exact Upd.drew (by assumption)) (fun hn => ?_)
            generalize w0.drew = wd at *
            refine wpAnyH_take (i := 0) (oi := { dst := some 13, op := Op.load 93 (Operand.tmp 5), type := 93, pos := "expr.go:32", after := #[], guard := none }) (v := ?v29x1) rfl (by kernel_rfl) (by kernel_rfl) (by kernel_rfl) (fun _ _ _ h => h) (Or.inl ⟨by rfl, ?y29x1⟩) hn ?r29x1
            case y29x1 => (intro wS hS; refine load_box (x := .tmp 5) ?_ ?_ hS.2 Tryd.underlying93 rfl infoI; rfl; rfl; (try go_simp); (try with_reducible rfl))
            try simp only [Act.put, List.setIfInBounds_toArray, List.set_cons_zero, List.set_cons_succ]
            refine wpAnyH_ready (rs := [1]) (by kernel_rfl) (by simp) ?_
            refine AllReadyH.cons (o := { dst := some 14, op := Op.call { callee := Callee.value (Operand.func 42), args := #[Operand.tmp 13], argTypes := #[93] }, type := 4, pos := "expr.go:32", after := #[{ on := 0, ground := Ground.data }], guard := none }) rfl (fun K hK => ?_) AllReadyH.nil
            go_simp
            refine (HR2.out _ hn.1).mono ?_
            rintro e wq ⟨rfl, hnq⟩
            go_wp2_with fail
            have hn := hn.new hnq
            refine hK.out _ _ (by first | exact hn | exact Upd.alloc hn _) (fun hn => ?_)
            clear hK K
            try simp only [Act.put, List.setIfInBounds_toArray, List.set_cons_zero, List.set_cons_succ]
            refine wpAnyH_take (i := 2) (oi := { dst := some 15, op := Op.unOp UnOp.not 4 (Operand.tmp 14), type := 4, pos := "expr.go:32", after := #[{ on := 1, ground := Ground.data }], guard := none }) (v := ?v29x2) rfl (by kernel_rfl) (by kernel_rfl) (by kernel_rfl) (fun _ _ _ h => h) (Or.inl ⟨by rfl, ?y29x2⟩) hn ?r29x2
            case y29x2 => (intro wS hS; (try go_simp); (try with_reducible rfl))
            try simp only [Act.put, List.setIfInBounds_toArray, List.set_cons_zero, List.set_cons_succ]
            refine wpAnyH_take (i := 3) (oi := { dst := some 16, op := Op.move (Operand.tmp 15), type := 4, pos := "expr.go:32", after := #[{ on := 2, ground := Ground.data }, { on := 1, ground := Ground.chain }], guard := none }) (v := ?v29x3) rfl (by kernel_rfl) (by kernel_rfl) (by kernel_rfl) (fun _ _ _ h => h) (Or.inl ⟨by rfl, ?y29x3⟩) hn ?r29x3
            case y29x3 => (intro wS hS; (try go_simp); (try with_reducible rfl))
            try simp only [Act.put, List.setIfInBounds_toArray, List.set_cons_zero, List.set_cons_succ]
            refine wpAnyH_take (i := 4) (oi := { dst := some 17, op := Op.move (Operand.tmp 3), type := 116, pos := "expr.go:32", after := #[{ on := 3, ground := Ground.guard }], guard := some (3, false) }) (v := ?v29x4) rfl (by kernel_rfl) (by kernel_rfl) (by kernel_rfl) (fun _ _ _ h => h) (Or.inl ⟨by rfl, ?y29x4⟩) hn ?r29x4
            case y29x4 => (intro wS hS; (try go_simp); (try with_reducible rfl))
            try simp only [Act.put, List.setIfInBounds_toArray, List.set_cons_zero, List.set_cons_succ]
            refine wpAnyH_take (i := 5) (oi := { dst := some 18, op := Op.fieldAddr 93 (Operand.tmp 5) 0, type := 0, pos := "expr.go:32", after := #[{ on := 3, ground := Ground.guard }], guard := some (3, false) }) (v := ?v29x5) rfl (by kernel_rfl) (by kernel_rfl) (by kernel_rfl) (fun _ _ _ h => h) (Or.inl ⟨by rfl, ?y29x5⟩) hn ?r29x5
            case y29x5 => (intro wS hS; (try go_simp); (try with_reducible rfl))
            try simp only [Act.put, List.setIfInBounds_toArray, List.set_cons_zero, List.set_cons_succ]
            refine wpAnyH_take (i := 6) (oi := { dst := some 19, op := Op.load 87 (Operand.tmp 18), type := 87, pos := "expr.go:32", after := #[{ on := 5, ground := Ground.data }, { on := 3, ground := Ground.guard }], guard := some (3, false) }) (v := ?v29x6) rfl (by kernel_rfl) (by kernel_rfl) (by kernel_rfl) (fun _ _ _ h => h) (Or.inl ⟨by rfl, ?y29x6⟩) hn ?r29x6
            case y29x6 => (intro wS hS; have c0 : wS.cell? ⟨wr.heap.size, 0, none⟩ = some (.int .u8 0) := hS.at 0 rfl; have c1 : wS.cell? ⟨wr.heap.size, 1, none⟩ = some (.int .u32 c) := hS.at 1 rfl; (try go_simp); (try with_reducible rfl))
            try simp only [Act.put, List.setIfInBounds_toArray, List.set_cons_zero, List.set_cons_succ]
            refine wpAnyH_ready (rs := [7]) (by kernel_rfl) (by simp) ?_
            refine AllReadyH.cons (o := { dst := some 20, op := Op.call { callee := Callee.value (Operand.func 43), args := #[Operand.tmp 17, Operand.tmp 19], argTypes := #[116, 87] }, type := 4, pos := "expr.go:32", after := #[{ on := 4, ground := Ground.data }, { on := 6, ground := Ground.data }, { on := 3, ground := Ground.chain }, { on := 3, ground := Ground.guard }], guard := some (3, false) }) rfl (fun K hK => ?_) AllReadyH.nil
            go_simp
            refine (HM.out _ hn.1).mono ?_
            rintro e wm ⟨rfl, hnq⟩
            go_wp2_with fail
            have hn := hn.new hnq
            refine hK.out _ _ (by first | exact hn | exact Upd.alloc hn _) (fun hn => ?_)
            clear hK K
            try simp only [Act.put, List.setIfInBounds_toArray, List.set_cons_zero, List.set_cons_succ]
            refine wpAnyH_take (i := 8) (oi := { dst := some 21, op := Op.unOp UnOp.not 4 (Operand.tmp 20), type := 4, pos := "expr.go:32", after := #[{ on := 7, ground := Ground.data }, { on := 3, ground := Ground.guard }], guard := some (3, false) }) (v := ?v29x7) rfl (by kernel_rfl) (by kernel_rfl) (by kernel_rfl) (fun _ _ _ h => h) (Or.inl ⟨by rfl, ?y29x7⟩) hn ?r29x7
            case y29x7 => (intro wS hS; (try go_simp); (try with_reducible rfl))
            try simp only [Act.put, List.setIfInBounds_toArray, List.set_cons_zero, List.set_cons_succ]
            refine wpAnyH_take (i := 9) (oi := { dst := some 22, op := Op.pick (Operand.tmp 16) (Operand.const (Value.bool true)) (Operand.tmp 21), type := 4, pos := "expr.go:32", after := #[{ on := 3, ground := Ground.data }, { on := 8, ground := Ground.data }], guard := none }) (v := ?v29x8) rfl (by kernel_rfl) (by kernel_rfl) (by kernel_rfl) (fun _ _ _ h => h) (Or.inl ⟨by rfl, ?y29x8⟩) hn ?r29x8
            case y29x8 => (intro wS hS; (try go_simp); (try with_reducible rfl))
            try simp only [Act.put, List.setIfInBounds_toArray, List.set_cons_zero, List.set_cons_succ]
            refine wpAnyH_take (i := 10) (oi := { dst := some 23, op := Op.move (Operand.tmp 22), type := 4, pos := "expr.go:32", after := #[{ on := 9, ground := Ground.data }, { on := 7, ground := Ground.chain }], guard := none }) (v := ?v29x9) rfl (by kernel_rfl) (by kernel_rfl) (by kernel_rfl) (fun _ _ _ h => h) (Or.inl ⟨by rfl, ?y29x9⟩) hn ?r29x9
            case y29x9 => (intro wS hS; (try go_simp); (try with_reducible rfl))
            try simp only [Act.put, List.setIfInBounds_toArray, List.set_cons_zero, List.set_cons_succ]
            refine wpAnyH_take (i := 11) (oi := { dst := some 24, op := Op.fieldAddr 93 (Operand.tmp 5) 0, type := 0, pos := "expr.go:32", after := #[{ on := 10, ground := Ground.guard }], guard := some (10, false) }) (v := ?v29x10) rfl (by kernel_rfl) (by kernel_rfl) (by kernel_rfl) (fun _ _ _ h => h) (Or.inl ⟨by rfl, ?y29x10⟩) hn ?r29x10
            case y29x10 => (intro wS hS; (try go_simp); (try with_reducible rfl))
            try simp only [Act.put, List.setIfInBounds_toArray, List.set_cons_zero, List.set_cons_succ]
            refine wpAnyH_take (i := 12) (oi := { dst := some 25, op := Op.load 87 (Operand.tmp 24), type := 87, pos := "expr.go:32", after := #[{ on := 11, ground := Ground.data }, { on := 10, ground := Ground.guard }], guard := some (10, false) }) (v := ?v29x11) rfl (by kernel_rfl) (by kernel_rfl) (by kernel_rfl) (fun _ _ _ h => h) (Or.inl ⟨by rfl, ?y29x11⟩) hn ?r29x11
            case y29x11 => (intro wS hS; have c0 : wS.cell? ⟨wr.heap.size, 0, none⟩ = some (.int .u8 0) := hS.at 0 rfl; have c1 : wS.cell? ⟨wr.heap.size, 1, none⟩ = some (.int .u32 c) := hS.at 1 rfl; (try go_simp); (try with_reducible rfl))
            try simp only [Act.put, List.setIfInBounds_toArray, List.set_cons_zero, List.set_cons_succ]
            refine wpAnyH_ready (rs := [13]) (by kernel_rfl) (by simp) ?_
            refine AllReadyH.cons (o := { dst := some 26, op := Op.call { callee := Callee.value (Operand.func 44), args := #[], argTypes := #[] }, type := 87, pos := "expr.go:32", after := #[{ on := 10, ground := Ground.chain }, { on := 10, ground := Ground.guard }], guard := some (10, false) }) rfl (fun K hK => ?_) AllReadyH.nil
            go_simp
            refine (HE.out _).mono ?_
            rintro e wn ⟨rfl, hnq⟩
            go_wp2_with fail
            have hn := hn.new hnq
            refine hK.out _ _ (by first | exact hn | exact Upd.alloc hn _) (fun hn => ?_)
            clear hK K
            try simp only [Act.put, List.setIfInBounds_toArray, List.set_cons_zero, List.set_cons_succ]
            refine wpAnyH_take (i := 14) (oi := { dst := some 27, op := Op.binOp BinOp.eql 87 (Operand.tmp 25) (Operand.tmp 26) 87, type := 4, pos := "expr.go:32", after := #[{ on := 12, ground := Ground.data }, { on := 13, ground := Ground.data }, { on := 10, ground := Ground.guard }], guard := some (10, false) }) (v := ?v29x12) rfl (by kernel_rfl) (by kernel_rfl) (by kernel_rfl) (fun _ _ _ h => h) (Or.inl ⟨by rfl, ?y29x12⟩) hn ?r29x12
            case y29x12 => (intro wS hS; go_simp; (try go_simp); (try with_reducible rfl))
            try simp only [Act.put, List.setIfInBounds_toArray, List.set_cons_zero, List.set_cons_succ]
            refine wpAnyH_take (i := 15) (oi := { dst := some 28, op := Op.move (Operand.tmp 27), type := 4, pos := "expr.go:32", after := #[{ on := 14, ground := Ground.data }, { on := 13, ground := Ground.chain }, { on := 10, ground := Ground.guard }], guard := some (10, false) }) (v := ?v29x13) rfl (by kernel_rfl) (by kernel_rfl) (by kernel_rfl) (fun _ _ _ h => h) (Or.inl ⟨by rfl, ?y29x13⟩) hn ?r29x13
            case y29x13 => (intro wS hS; (try go_simp); (try with_reducible rfl))
            try simp only [Act.put, List.setIfInBounds_toArray, List.set_cons_zero, List.set_cons_succ]
            refine wpAnyH_take (i := 16) (oi := { dst := some 29, op := Op.move (Operand.tmp 0), type := 50, pos := "expr.go:32", after := #[{ on := 15, ground := Ground.guard }], guard := some (15, true) }) (v := undef) rfl (by kernel_rfl) (by kernel_rfl) (by kernel_rfl) (fun _ _ _ h => h) (Or.inr ⟨by rfl, rfl⟩) hn ?_
            try simp only [Act.put, List.setIfInBounds_toArray, List.set_cons_zero, List.set_cons_succ]
            refine wpAnyH_take (i := 17) (oi := { dst := some 30, op := Op.move (Operand.tmp 4), type := 3, pos := "expr.go:32", after := #[{ on := 15, ground := Ground.guard }], guard := some (15, true) }) (v := undef) rfl (by kernel_rfl) (by kernel_rfl) (by kernel_rfl) (fun _ _ _ h => h) (Or.inr ⟨by rfl, rfl⟩) hn ?_
            try simp only [Act.put, List.setIfInBounds_toArray, List.set_cons_zero, List.set_cons_succ]
            refine wpAnyH_take (i := 18) (oi := { dst := some 31, op := Op.slice 50 (Operand.tmp 29) none (some (Operand.tmp 30)) none, type := 50, pos := "expr.go:32", after := #[{ on := 16, ground := Ground.data }, { on := 17, ground := Ground.data }, { on := 15, ground := Ground.guard }], guard := some (15, true) }) (v := undef) rfl (by kernel_rfl) (by kernel_rfl) (by kernel_rfl) (fun _ _ _ h => h) (Or.inr ⟨by rfl, rfl⟩) hn ?_
            try simp only [Act.put, List.setIfInBounds_toArray, List.set_cons_zero, List.set_cons_succ]
            refine wpAnyH_take (i := 19) (oi := { dst := some 32, op := Op.call { callee := Callee.value (Operand.func 45), args := #[Operand.tmp 31], argTypes := #[50] }, type := 4, pos := "expr.go:32", after := #[{ on := 18, ground := Ground.data }, { on := 15, ground := Ground.chain }, { on := 15, ground := Ground.guard }], guard := some (15, true) }) (v := undef) rfl (by kernel_rfl) (by kernel_rfl) (by kernel_rfl) (fun _ _ _ h => h) (Or.inr ⟨by rfl, rfl⟩) hn ?_
            try simp only [Act.put, List.setIfInBounds_toArray, List.set_cons_zero, List.set_cons_succ]
            refine wpAnyH_take (i := 20) (oi := { dst := some 33, op := Op.pick (Operand.tmp 28) (Operand.tmp 32) (Operand.const (Value.bool false)), type := 4, pos := "expr.go:32", after := #[{ on := 15, ground := Ground.data }, { on := 19, ground := Ground.data }, { on := 10, ground := Ground.guard }], guard := some (10, false) }) (v := ?v29x18) rfl (by kernel_rfl) (by kernel_rfl) (by kernel_rfl) (fun _ _ _ h => h) (Or.inl ⟨by rfl, ?y29x18⟩) hn ?r29x18
            case y29x18 => (intro wS hS; (try go_simp); (try with_reducible rfl))
            try simp only [Act.put, List.setIfInBounds_toArray, List.set_cons_zero, List.set_cons_succ]
            refine wpAnyH_take (i := 21) (oi := { dst := some 34, op := Op.pick (Operand.tmp 23) (Operand.const (Value.bool true)) (Operand.tmp 33), type := 4, pos := "expr.go:32", after := #[{ on := 10, ground := Ground.data }, { on := 20, ground := Ground.data }], guard := none }) (v := ?v29x19) rfl (by kernel_rfl) (by kernel_rfl) (by kernel_rfl) (fun _ _ _ h => h) (Or.inl ⟨by rfl, ?y29x19⟩) hn ?r29x19
            case y29x19 => (intro wS hS; (try go_simp); (try with_reducible rfl))
            try simp only [Act.put, List.setIfInBounds_toArray, List.set_cons_zero, List.set_cons_succ]
            refine wpAnyH_done (by kernel_rfl) ?_ _
            refine NoPanic.normal ?_
            have HZ := hid hn
            clear hn
            have z0 : wn.cell? ⟨wr.heap.size, 0, none⟩ = some (.int .u8 0) := HZ.out.at 0 rfl
            have z1 : wn.cell? ⟨wr.heap.size, 1, none⟩ = some (.int .u32 c) := HZ.out.at 1 rfl
            go_wp2_with fail
            refine (HBE.out hmy.out _ HZ.out.1).mono ?_
            rintro e wp ⟨v', rfl, hby2, had⟩
            have HBY2 := hid hby2
            have HN2 := hid (Upd.newAdds (New.trans HN.out HZ.out.1) HFR.out had)
            have HF2 := hid (Fresh.adds HFR.out (New.trans HN.out HZ.out.1).size had)
            obtain ⟨vb2, vn2, vc2, rfl⟩ := Bytes.slice hby2
            clear hby2 had z0 z1
            go_wp2_with fail
            go_roundw
            case rel => exact ⟨i + 1, _, by go_num, by omega, Nat.le_trans rightGo_len (Nat.succ_le_succ HNL.out), HBY2.out, HN2.out, HF2.out, by rw [HTK.out]; exact HGO.out.trans ⟨fun h => h.2.2.2, fun h => ⟨hrq.out, hmy.out, (fun h => by have h2 := (of_decide_eq_true (p := (0 : Int) = 0 ∧ c = 11) h.1).2; rw [g4] at h2; exact h2), h⟩⟩⟩
            case measure => simp [intOf]; omega
          · have g1 : (p == 0) = false := beq_eq_false_iff_ne.2 h0
            have g2 : (p = 0) = False := eq_false h0
            clear h0
            go_wp2_with fail
            generalize wr.alloc (.cells #[_, _, _, _, _, _, _, _, _, _, _, _] 93) = w0 at *
            clear k0 k1 k2 k3 k4 k5 k6 k7 k8 k9 k10 k11
            have hn : Bx1 wr (cells ⟨p, c, k, t, i', x, y, li, nn, raw, lane, ty⟩ (.slice al li.length cl) (.slice au (lb ty).length cu)) 93 w0.drew := HB0.out.new (Upd.refl _ _).drew
            refine wp_region_noPanic ?_
            refine wp_region_held_drew (S := (Bx1 wr (cells ⟨p, c, k, t, i', x, y, li, nn, raw, lane, ty⟩ (.slice al li.length cl) (.slice au (lb ty).length cu)) 93)) (by kernel_rfl) (by first | exact hn | exact (Upd.refl _ _).drew | exact Upd.drew (by assumption)) (fun hn => ?_)
            generalize w0.drew = wd at *
            refine wpAnyH_take (i := 0) (oi := { dst := some 13, op := Op.load 93 (Operand.tmp 5), type := 93, pos := "expr.go:32", after := #[], guard := none }) (v := ?v30x1) rfl (by kernel_rfl) (by kernel_rfl) (by kernel_rfl) (fun _ _ _ h => h) (Or.inl ⟨by rfl, ?y30x1⟩) hn ?r30x1
            case y30x1 => (intro wS hS; refine load_box (x := .tmp 5) ?_ ?_ hS.2 Tryd.underlying93 rfl infoI; rfl; rfl; (try go_simp); (try with_reducible rfl))
            try simp only [Act.put, List.setIfInBounds_toArray, List.set_cons_zero, List.set_cons_succ]
            refine wpAnyH_ready (rs := [1]) (by kernel_rfl) (by simp) ?_
            refine AllReadyH.cons (o := { dst := some 14, op := Op.call { callee := Callee.value (Operand.func 42), args := #[Operand.tmp 13], argTypes := #[93] }, type := 4, pos := "expr.go:32", after := #[{ on := 0, ground := Ground.data }], guard := none }) rfl (fun K hK => ?_) AllReadyH.nil
            go_simp
            refine (HR2.out _ hn.1).mono ?_
            rintro e wq ⟨rfl, hnq⟩
            go_wp2_with fail
            have hn := hn.new hnq
            refine hK.out _ _ (by first | exact hn | exact Upd.alloc hn _) (fun hn => ?_)
            clear hK K
            try simp only [Act.put, List.setIfInBounds_toArray, List.set_cons_zero, List.set_cons_succ]
            refine wpAnyH_take (i := 2) (oi := { dst := some 15, op := Op.unOp UnOp.not 4 (Operand.tmp 14), type := 4, pos := "expr.go:32", after := #[{ on := 1, ground := Ground.data }], guard := none }) (v := ?v30x2) rfl (by kernel_rfl) (by kernel_rfl) (by kernel_rfl) (fun _ _ _ h => h) (Or.inl ⟨by rfl, ?y30x2⟩) hn ?r30x2
            case y30x2 => (intro wS hS; (try go_simp); (try with_reducible rfl))
            try simp only [Act.put, List.setIfInBounds_toArray, List.set_cons_zero, List.set_cons_succ]
            refine wpAnyH_take (i := 3) (oi := { dst := some 16, op := Op.move (Operand.tmp 15), type := 4, pos := "expr.go:32", after := #[{ on := 2, ground := Ground.data }, { on := 1, ground := Ground.chain }], guard := none }) (v := ?v30x3) rfl (by kernel_rfl) (by kernel_rfl) (by kernel_rfl) (fun _ _ _ h => h) (Or.inl ⟨by rfl, ?y30x3⟩) hn ?r30x3
            case y30x3 => (intro wS hS; (try go_simp); (try with_reducible rfl))
            try simp only [Act.put, List.setIfInBounds_toArray, List.set_cons_zero, List.set_cons_succ]
            refine wpAnyH_take (i := 4) (oi := { dst := some 17, op := Op.move (Operand.tmp 3), type := 116, pos := "expr.go:32", after := #[{ on := 3, ground := Ground.guard }], guard := some (3, false) }) (v := ?v30x4) rfl (by kernel_rfl) (by kernel_rfl) (by kernel_rfl) (fun _ _ _ h => h) (Or.inl ⟨by rfl, ?y30x4⟩) hn ?r30x4
            case y30x4 => (intro wS hS; (try go_simp); (try with_reducible rfl))
            try simp only [Act.put, List.setIfInBounds_toArray, List.set_cons_zero, List.set_cons_succ]
            refine wpAnyH_take (i := 5) (oi := { dst := some 18, op := Op.fieldAddr 93 (Operand.tmp 5) 0, type := 0, pos := "expr.go:32", after := #[{ on := 3, ground := Ground.guard }], guard := some (3, false) }) (v := ?v30x5) rfl (by kernel_rfl) (by kernel_rfl) (by kernel_rfl) (fun _ _ _ h => h) (Or.inl ⟨by rfl, ?y30x5⟩) hn ?r30x5
            case y30x5 => (intro wS hS; (try go_simp); (try with_reducible rfl))
            try simp only [Act.put, List.setIfInBounds_toArray, List.set_cons_zero, List.set_cons_succ]
            refine wpAnyH_take (i := 6) (oi := { dst := some 19, op := Op.load 87 (Operand.tmp 18), type := 87, pos := "expr.go:32", after := #[{ on := 5, ground := Ground.data }, { on := 3, ground := Ground.guard }], guard := some (3, false) }) (v := ?v30x6) rfl (by kernel_rfl) (by kernel_rfl) (by kernel_rfl) (fun _ _ _ h => h) (Or.inl ⟨by rfl, ?y30x6⟩) hn ?r30x6
            case y30x6 => (intro wS hS; have c0 : wS.cell? ⟨wr.heap.size, 0, none⟩ = some (.int .u8 p) := hS.at 0 rfl; have c1 : wS.cell? ⟨wr.heap.size, 1, none⟩ = some (.int .u32 c) := hS.at 1 rfl; (try go_simp); (try with_reducible rfl))
            try simp only [Act.put, List.setIfInBounds_toArray, List.set_cons_zero, List.set_cons_succ]
            refine wpAnyH_ready (rs := [7]) (by kernel_rfl) (by simp) ?_
            refine AllReadyH.cons (o := { dst := some 20, op := Op.call { callee := Callee.value (Operand.func 43), args := #[Operand.tmp 17, Operand.tmp 19], argTypes := #[116, 87] }, type := 4, pos := "expr.go:32", after := #[{ on := 4, ground := Ground.data }, { on := 6, ground := Ground.data }, { on := 3, ground := Ground.chain }, { on := 3, ground := Ground.guard }], guard := some (3, false) }) rfl (fun K hK => ?_) AllReadyH.nil
            go_simp
            refine (HM.out _ hn.1).mono ?_
            rintro e wm ⟨rfl, hnq⟩
            go_wp2_with fail
            have hn := hn.new hnq
            refine hK.out _ _ (by first | exact hn | exact Upd.alloc hn _) (fun hn => ?_)
            clear hK K
            try simp only [Act.put, List.setIfInBounds_toArray, List.set_cons_zero, List.set_cons_succ]
            refine wpAnyH_take (i := 8) (oi := { dst := some 21, op := Op.unOp UnOp.not 4 (Operand.tmp 20), type := 4, pos := "expr.go:32", after := #[{ on := 7, ground := Ground.data }, { on := 3, ground := Ground.guard }], guard := some (3, false) }) (v := ?v30x7) rfl (by kernel_rfl) (by kernel_rfl) (by kernel_rfl) (fun _ _ _ h => h) (Or.inl ⟨by rfl, ?y30x7⟩) hn ?r30x7
            case y30x7 => (intro wS hS; (try go_simp); (try with_reducible rfl))
            try simp only [Act.put, List.setIfInBounds_toArray, List.set_cons_zero, List.set_cons_succ]
            refine wpAnyH_take (i := 9) (oi := { dst := some 22, op := Op.pick (Operand.tmp 16) (Operand.const (Value.bool true)) (Operand.tmp 21), type := 4, pos := "expr.go:32", after := #[{ on := 3, ground := Ground.data }, { on := 8, ground := Ground.data }], guard := none }) (v := ?v30x8) rfl (by kernel_rfl) (by kernel_rfl) (by kernel_rfl) (fun _ _ _ h => h) (Or.inl ⟨by rfl, ?y30x8⟩) hn ?r30x8
            case y30x8 => (intro wS hS; (try go_simp); (try with_reducible rfl))
            try simp only [Act.put, List.setIfInBounds_toArray, List.set_cons_zero, List.set_cons_succ]
            refine wpAnyH_take (i := 10) (oi := { dst := some 23, op := Op.move (Operand.tmp 22), type := 4, pos := "expr.go:32", after := #[{ on := 9, ground := Ground.data }, { on := 7, ground := Ground.chain }], guard := none }) (v := ?v30x9) rfl (by kernel_rfl) (by kernel_rfl) (by kernel_rfl) (fun _ _ _ h => h) (Or.inl ⟨by rfl, ?y30x9⟩) hn ?r30x9
            case y30x9 => (intro wS hS; (try go_simp); (try with_reducible rfl))
            try simp only [Act.put, List.setIfInBounds_toArray, List.set_cons_zero, List.set_cons_succ]
            refine wpAnyH_take (i := 11) (oi := { dst := some 24, op := Op.fieldAddr 93 (Operand.tmp 5) 0, type := 0, pos := "expr.go:32", after := #[{ on := 10, ground := Ground.guard }], guard := some (10, false) }) (v := ?v30x10) rfl (by kernel_rfl) (by kernel_rfl) (by kernel_rfl) (fun _ _ _ h => h) (Or.inl ⟨by rfl, ?y30x10⟩) hn ?r30x10
            case y30x10 => (intro wS hS; (try go_simp); (try with_reducible rfl))
            try simp only [Act.put, List.setIfInBounds_toArray, List.set_cons_zero, List.set_cons_succ]
            refine wpAnyH_take (i := 12) (oi := { dst := some 25, op := Op.load 87 (Operand.tmp 24), type := 87, pos := "expr.go:32", after := #[{ on := 11, ground := Ground.data }, { on := 10, ground := Ground.guard }], guard := some (10, false) }) (v := ?v30x11) rfl (by kernel_rfl) (by kernel_rfl) (by kernel_rfl) (fun _ _ _ h => h) (Or.inl ⟨by rfl, ?y30x11⟩) hn ?r30x11
            case y30x11 => (intro wS hS; have c0 : wS.cell? ⟨wr.heap.size, 0, none⟩ = some (.int .u8 p) := hS.at 0 rfl; have c1 : wS.cell? ⟨wr.heap.size, 1, none⟩ = some (.int .u32 c) := hS.at 1 rfl; (try go_simp); (try with_reducible rfl))
            try simp only [Act.put, List.setIfInBounds_toArray, List.set_cons_zero, List.set_cons_succ]
            refine wpAnyH_ready (rs := [13]) (by kernel_rfl) (by simp) ?_
            refine AllReadyH.cons (o := { dst := some 26, op := Op.call { callee := Callee.value (Operand.func 44), args := #[], argTypes := #[] }, type := 87, pos := "expr.go:32", after := #[{ on := 10, ground := Ground.chain }, { on := 10, ground := Ground.guard }], guard := some (10, false) }) rfl (fun K hK => ?_) AllReadyH.nil
            go_simp
            refine (HE.out _).mono ?_
            rintro e wn ⟨rfl, hnq⟩
            go_wp2_with fail
            have hn := hn.new hnq
            refine hK.out _ _ (by first | exact hn | exact Upd.alloc hn _) (fun hn => ?_)
            clear hK K
            try simp only [Act.put, List.setIfInBounds_toArray, List.set_cons_zero, List.set_cons_succ]
            refine wpAnyH_take (i := 14) (oi := { dst := some 27, op := Op.binOp BinOp.eql 87 (Operand.tmp 25) (Operand.tmp 26) 87, type := 4, pos := "expr.go:32", after := #[{ on := 12, ground := Ground.data }, { on := 13, ground := Ground.data }, { on := 10, ground := Ground.guard }], guard := some (10, false) }) (v := ?v30x12) rfl (by kernel_rfl) (by kernel_rfl) (by kernel_rfl) (fun _ _ _ h => h) (Or.inl ⟨by rfl, ?y30x12⟩) hn ?r30x12
            case y30x12 => (intro wS hS; go_simp; (try go_simp); (try with_reducible rfl))
            try simp only [Act.put, List.setIfInBounds_toArray, List.set_cons_zero, List.set_cons_succ]
            refine wpAnyH_take (i := 15) (oi := { dst := some 28, op := Op.move (Operand.tmp 27), type := 4, pos := "expr.go:32", after := #[{ on := 14, ground := Ground.data }, { on := 13, ground := Ground.chain }, { on := 10, ground := Ground.guard }], guard := some (10, false) }) (v := ?v30x13) rfl (by kernel_rfl) (by kernel_rfl) (by kernel_rfl) (fun _ _ _ h => h) (Or.inl ⟨by rfl, ?y30x13⟩) hn ?r30x13
            case y30x13 => (intro wS hS; (try go_simp); (try with_reducible rfl))
            try simp only [Act.put, List.setIfInBounds_toArray, List.set_cons_zero, List.set_cons_succ]
            refine wpAnyH_take (i := 16) (oi := { dst := some 29, op := Op.move (Operand.tmp 0), type := 50, pos := "expr.go:32", after := #[{ on := 15, ground := Ground.guard }], guard := some (15, true) }) (v := undef) rfl (by kernel_rfl) (by kernel_rfl) (by kernel_rfl) (fun _ _ _ h => h) (Or.inr ⟨by rfl, rfl⟩) hn ?_
            try simp only [Act.put, List.setIfInBounds_toArray, List.set_cons_zero, List.set_cons_succ]
            refine wpAnyH_take (i := 17) (oi := { dst := some 30, op := Op.move (Operand.tmp 4), type := 3, pos := "expr.go:32", after := #[{ on := 15, ground := Ground.guard }], guard := some (15, true) }) (v := undef) rfl (by kernel_rfl) (by kernel_rfl) (by kernel_rfl) (fun _ _ _ h => h) (Or.inr ⟨by rfl, rfl⟩) hn ?_
            try simp only [Act.put, List.setIfInBounds_toArray, List.set_cons_zero, List.set_cons_succ]
            refine wpAnyH_take (i := 18) (oi := { dst := some 31, op := Op.slice 50 (Operand.tmp 29) none (some (Operand.tmp 30)) none, type := 50, pos := "expr.go:32", after := #[{ on := 16, ground := Ground.data }, { on := 17, ground := Ground.data }, { on := 15, ground := Ground.guard }], guard := some (15, true) }) (v := undef) rfl (by kernel_rfl) (by kernel_rfl) (by kernel_rfl) (fun _ _ _ h => h) (Or.inr ⟨by rfl, rfl⟩) hn ?_
            try simp only [Act.put, List.setIfInBounds_toArray, List.set_cons_zero, List.set_cons_succ]
            refine wpAnyH_take (i := 19) (oi := { dst := some 32, op := Op.call { callee := Callee.value (Operand.func 45), args := #[Operand.tmp 31], argTypes := #[50] }, type := 4, pos := "expr.go:32", after := #[{ on := 18, ground := Ground.data }, { on := 15, ground := Ground.chain }, { on := 15, ground := Ground.guard }], guard := some (15, true) }) (v := undef) rfl (by kernel_rfl) (by kernel_rfl) (by kernel_rfl) (fun _ _ _ h => h) (Or.inr ⟨by rfl, rfl⟩) hn ?_
            try simp only [Act.put, List.setIfInBounds_toArray, List.set_cons_zero, List.set_cons_succ]
            refine wpAnyH_take (i := 20) (oi := { dst := some 33, op := Op.pick (Operand.tmp 28) (Operand.tmp 32) (Operand.const (Value.bool false)), type := 4, pos := "expr.go:32", after := #[{ on := 15, ground := Ground.data }, { on := 19, ground := Ground.data }, { on := 10, ground := Ground.guard }], guard := some (10, false) }) (v := ?v30x18) rfl (by kernel_rfl) (by kernel_rfl) (by kernel_rfl) (fun _ _ _ h => h) (Or.inl ⟨by rfl, ?y30x18⟩) hn ?r30x18
            case y30x18 => (intro wS hS; (try go_simp); (try with_reducible rfl))
            try simp only [Act.put, List.setIfInBounds_toArray, List.set_cons_zero, List.set_cons_succ]
            refine wpAnyH_take (i := 21) (oi := { dst := some 34, op := Op.pick (Operand.tmp 23) (Operand.const (Value.bool true)) (Operand.tmp 33), type := 4, pos := "expr.go:32", after := #[{ on := 10, ground := Ground.data }, { on := 20, ground := Ground.data }], guard := none }) (v := ?v30x19) rfl (by kernel_rfl) (by kernel_rfl) (by kernel_rfl) (fun _ _ _ h => h) (Or.inl ⟨by rfl, ?y30x19⟩) hn ?r30x19
            case y30x19 => (intro wS hS; (try go_simp); (try with_reducible rfl))
            try simp only [Act.put, List.setIfInBounds_toArray, List.set_cons_zero, List.set_cons_succ]
            refine wpAnyH_done (by kernel_rfl) ?_ _
            refine NoPanic.normal ?_
            have HZ := hid hn
            clear hn
            have z0 : wn.cell? ⟨wr.heap.size, 0, none⟩ = some (.int .u8 p) := HZ.out.at 0 rfl
            have z1 : wn.cell? ⟨wr.heap.size, 1, none⟩ = some (.int .u32 c) := HZ.out.at 1 rfl
            go_wp2_with fail
            refine (HBE.out hmy.out _ HZ.out.1).mono ?_
            rintro e wp ⟨v', rfl, hby2, had⟩
            have HBY2 := hid hby2
            have HN2 := hid (Upd.newAdds (New.trans HN.out HZ.out.1) HFR.out had)
            have HF2 := hid (Fresh.adds HFR.out (New.trans HN.out HZ.out.1).size had)
            obtain ⟨vb2, vn2, vc2, rfl⟩ := Bytes.slice hby2
            clear hby2 had z0 z1
            go_wp2_with fail
            go_roundw
            case rel => exact ⟨i + 1, _, by go_num, by omega, Nat.le_trans rightGo_len (Nat.succ_le_succ HNL.out), HBY2.out, HN2.out, HF2.out, by rw [HTK.out]; exact HGO.out.trans ⟨fun h => h.2.2.2, fun h => ⟨hrq.out, hmy.out, (fun h => hen.out (of_decide_eq_true h.1)), h⟩⟩⟩
            case measure => simp [intOf]; omega
      · have HR2 : Hid (∀ w', New wr w' → Calls Tryd.prog 42 #[.agg #[.int .u8 p, .int .u32 c, .int .i64 k, .int .u8 t, .int .u32 i', .int .u32 x, .int .u32 y, .slice al li.length cl, .int .i64 nn, .string raw, .int .u8 lane, .slice au (lb ty).length cu]] w' (IsNew false w')) := fun w' h => (HR.out w' h).mono fun _ _ h => same_new (iff_of_false (by decide) hrq) h
        replace hrq := hid hrq
        clear HR
        go_wp2_with fail
        generalize wr.alloc (.cells #[_, _, _, _, _, _, _, _, _, _, _, _] 93) = w0 at *
        clear k0 k1 k2 k3 k4 k5 k6 k7 k8 k9 k10 k11
        have hn : Bx1 wr (cells ⟨p, c, k, t, i', x, y, li, nn, raw, lane, ty⟩ (.slice al li.length cl) (.slice au (lb ty).length cu)) 93 w0.drew := HB0.out.new (Upd.refl _ _).drew
        refine wp_region_noPanic ?_
        refine wp_region_held_drew (S := (Bx1 wr (cells ⟨p, c, k, t, i', x, y, li, nn, raw, lane, ty⟩ (.slice al li.length cl) (.slice au (lb ty).length cu)) 93)) (by kernel_rfl) (by first | exact hn | exact (Upd.refl _ _).drew | exact Upd.drew (by assumption)) (fun hn => ?_)
        generalize w0.drew = wd at *
        refine wpAnyH_take (i := 0) (oi := { dst := some 13, op := Op.load 93 (Operand.tmp 5), type := 93, pos := "expr.go:32", after := #[], guard := none }) (v := ?v31x1) rfl (by kernel_rfl) (by kernel_rfl) (by kernel_rfl) (fun _ _ _ h => h) (Or.inl ⟨by rfl, ?y31x1⟩) hn ?r31x1
        case y31x1 => (intro wS hS; refine load_box (x := .tmp 5) ?_ ?_ hS.2 Tryd.underlying93 rfl infoI; rfl; rfl; (try go_simp); (try with_reducible rfl))
        try simp only [Act.put, List.setIfInBounds_toArray, List.set_cons_zero, List.set_cons_succ]
        refine wpAnyH_ready (rs := [1]) (by kernel_rfl) (by simp) ?_
        refine AllReadyH.cons (o := { dst := some 14, op := Op.call { callee := Callee.value (Operand.func 42), args := #[Operand.tmp 13], argTypes := #[93] }, type := 4, pos := "expr.go:32", after := #[{ on := 0, ground := Ground.data }], guard := none }) rfl (fun K hK => ?_) AllReadyH.nil
        go_simp
        refine (HR2.out _ hn.1).mono ?_
        rintro e wq ⟨rfl, hnq⟩
        go_wp2_with fail
        have hn := hn.new hnq
        refine hK.out _ _ (by first | exact hn | exact Upd.alloc hn _) (fun hn => ?_)
        clear hK K
        try simp only [Act.put, List.setIfInBounds_toArray, List.set_cons_zero, List.set_cons_succ]
        refine wpAnyH_take (i := 2) (oi := { dst := some 15, op := Op.unOp UnOp.not 4 (Operand.tmp 14), type := 4, pos := "expr.go:32", after := #[{ on := 1, ground := Ground.data }], guard := none }) (v := ?v31x2) rfl (by kernel_rfl) (by kernel_rfl) (by kernel_rfl) (fun _ _ _ h => h) (Or.inl ⟨by rfl, ?y31x2⟩) hn ?r31x2
        case y31x2 => (intro wS hS; (try go_simp); (try with_reducible rfl))
        try simp only [Act.put, List.setIfInBounds_toArray, List.set_cons_zero, List.set_cons_succ]
        refine wpAnyH_take (i := 3) (oi := { dst := some 16, op := Op.move (Operand.tmp 15), type := 4, pos := "expr.go:32", after := #[{ on := 2, ground := Ground.data }, { on := 1, ground := Ground.chain }], guard := none }) (v := ?v31x3) rfl (by kernel_rfl) (by kernel_rfl) (by kernel_rfl) (fun _ _ _ h => h) (Or.inl ⟨by rfl, ?y31x3⟩) hn ?r31x3
        case y31x3 => (intro wS hS; (try go_simp); (try with_reducible rfl))
        try simp only [Act.put, List.setIfInBounds_toArray, List.set_cons_zero, List.set_cons_succ]
        refine wpAnyH_take (i := 4) (oi := { dst := some 17, op := Op.move (Operand.tmp 3), type := 116, pos := "expr.go:32", after := #[{ on := 3, ground := Ground.guard }], guard := some (3, false) }) (v := undef) rfl (by kernel_rfl) (by kernel_rfl) (by kernel_rfl) (fun _ _ _ h => h) (Or.inr ⟨by rfl, rfl⟩) hn ?_
        try simp only [Act.put, List.setIfInBounds_toArray, List.set_cons_zero, List.set_cons_succ]
        refine wpAnyH_take (i := 5) (oi := { dst := some 18, op := Op.fieldAddr 93 (Operand.tmp 5) 0, type := 0, pos := "expr.go:32", after := #[{ on := 3, ground := Ground.guard }], guard := some (3, false) }) (v := undef) rfl (by kernel_rfl) (by kernel_rfl) (by kernel_rfl) (fun _ _ _ h => h) (Or.inr ⟨by rfl, rfl⟩) hn ?_
        try simp only [Act.put, List.setIfInBounds_toArray, List.set_cons_zero, List.set_cons_succ]
        refine wpAnyH_take (i := 6) (oi := { dst := some 19, op := Op.load 87 (Operand.tmp 18), type := 87, pos := "expr.go:32", after := #[{ on := 5, ground := Ground.data }, { on := 3, ground := Ground.guard }], guard := some (3, false) }) (v := undef) rfl (by kernel_rfl) (by kernel_rfl) (by kernel_rfl) (fun _ _ _ h => h) (Or.inr ⟨by rfl, rfl⟩) hn ?_
        try simp only [Act.put, List.setIfInBounds_toArray, List.set_cons_zero, List.set_cons_succ]
        refine wpAnyH_take (i := 7) (oi := { dst := some 20, op := Op.call { callee := Callee.value (Operand.func 43), args := #[Operand.tmp 17, Operand.tmp 19], argTypes := #[116, 87] }, type := 4, pos := "expr.go:32", after := #[{ on := 4, ground := Ground.data }, { on := 6, ground := Ground.data }, { on := 3, ground := Ground.chain }, { on := 3, ground := Ground.guard }], guard := some (3, false) }) (v := undef) rfl (by kernel_rfl) (by kernel_rfl) (by kernel_rfl) (fun _ _ _ h => h) (Or.inr ⟨by rfl, rfl⟩) hn ?_
        try simp only [Act.put, List.setIfInBounds_toArray, List.set_cons_zero, List.set_cons_succ]
        refine wpAnyH_take (i := 8) (oi := { dst := some 21, op := Op.unOp UnOp.not 4 (Operand.tmp 20), type := 4, pos := "expr.go:32", after := #[{ on := 7, ground := Ground.data }, { on := 3, ground := Ground.guard }], guard := some (3, false) }) (v := undef) rfl (by kernel_rfl) (by kernel_rfl) (by kernel_rfl) (fun _ _ _ h => h) (Or.inr ⟨by rfl, rfl⟩) hn ?_
        try simp only [Act.put, List.setIfInBounds_toArray, List.set_cons_zero, List.set_cons_succ]
        refine wpAnyH_take (i := 9) (oi := { dst := some 22, op := Op.pick (Operand.tmp 16) (Operand.const (Value.bool true)) (Operand.tmp 21), type := 4, pos := "expr.go:32", after := #[{ on := 3, ground := Ground.data }, { on := 8, ground := Ground.data }], guard := none }) (v := ?v31x9) rfl (by kernel_rfl) (by kernel_rfl) (by kernel_rfl) (fun _ _ _ h => h) (Or.inl ⟨by rfl, ?y31x9⟩) hn ?r31x9
        case y31x9 => (intro wS hS; (try go_simp); (try with_reducible rfl))
        try simp only [Act.put, List.setIfInBounds_toArray, List.set_cons_zero, List.set_cons_succ]
        refine wpAnyH_take (i := 10) (oi := { dst := some 23, op := Op.move (Operand.tmp 22), type := 4, pos := "expr.go:32", after := #[{ on := 9, ground := Ground.data }, { on := 7, ground := Ground.chain }], guard := none }) (v := ?v31x10) rfl (by kernel_rfl) (by kernel_rfl) (by kernel_rfl) (fun _ _ _ h => h) (Or.inl ⟨by rfl, ?y31x10⟩) hn ?r31x10
        case y31x10 => (intro wS hS; (try go_simp); (try with_reducible rfl))
        try simp only [Act.put, List.setIfInBounds_toArray, List.set_cons_zero, List.set_cons_succ]
        refine wpAnyH_take (i := 11) (oi := { dst := some 24, op := Op.fieldAddr 93 (Operand.tmp 5) 0, type := 0, pos := "expr.go:32", after := #[{ on := 10, ground := Ground.guard }], guard := some (10, false) }) (v := undef) rfl (by kernel_rfl) (by kernel_rfl) (by kernel_rfl) (fun _ _ _ h => h) (Or.inr ⟨by rfl, rfl⟩) hn ?_
        try simp only [Act.put, List.setIfInBounds_toArray, List.set_cons_zero, List.set_cons_succ]
        refine wpAnyH_take (i := 12) (oi := { dst := some 25, op := Op.load 87 (Operand.tmp 24), type := 87, pos := "expr.go:32", after := #[{ on := 11, ground := Ground.data }, { on := 10, ground := Ground.guard }], guard := some (10, false) }) (v := undef) rfl (by kernel_rfl) (by kernel_rfl) (by kernel_rfl) (fun _ _ _ h => h) (Or.inr ⟨by rfl, rfl⟩) hn ?_
        try simp only [Act.put, List.setIfInBounds_toArray, List.set_cons_zero, List.set_cons_succ]
        refine wpAnyH_take (i := 13) (oi := { dst := some 26, op := Op.call { callee := Callee.value (Operand.func 44), args := #[], argTypes := #[] }, type := 87, pos := "expr.go:32", after := #[{ on := 10, ground := Ground.chain }, { on := 10, ground := Ground.guard }], guard := some (10, false) }) (v := undef) rfl (by kernel_rfl) (by kernel_rfl) (by kernel_rfl) (fun _ _ _ h => h) (Or.inr ⟨by rfl, rfl⟩) hn ?_
        try simp only [Act.put, List.setIfInBounds_toArray, List.set_cons_zero, List.set_cons_succ]
        refine wpAnyH_take (i := 14) (oi := { dst := some 27, op := Op.binOp BinOp.eql 87 (Operand.tmp 25) (Operand.tmp 26) 87, type := 4, pos := "expr.go:32", after := #[{ on := 12, ground := Ground.data }, { on := 13, ground := Ground.data }, { on := 10, ground := Ground.guard }], guard := some (10, false) }) (v := undef) rfl (by kernel_rfl) (by kernel_rfl) (by kernel_rfl) (fun _ _ _ h => h) (Or.inr ⟨by rfl, rfl⟩) hn ?_
        try simp only [Act.put, List.setIfInBounds_toArray, List.set_cons_zero, List.set_cons_succ]
        refine wpAnyH_take (i := 15) (oi := { dst := some 28, op := Op.move (Operand.tmp 27), type := 4, pos := "expr.go:32", after := #[{ on := 14, ground := Ground.data }, { on := 13, ground := Ground.chain }, { on := 10, ground := Ground.guard }], guard := some (10, false) }) (v := undef) rfl (by kernel_rfl) (by kernel_rfl) (by kernel_rfl) (fun _ _ _ h => h) (Or.inr ⟨by rfl, rfl⟩) hn ?_
        try simp only [Act.put, List.setIfInBounds_toArray, List.set_cons_zero, List.set_cons_succ]
        refine wpAnyH_take (i := 16) (oi := { dst := some 29, op := Op.move (Operand.tmp 0), type := 50, pos := "expr.go:32", after := #[{ on := 15, ground := Ground.guard }], guard := some (15, true) }) (v := undef) rfl (by kernel_rfl) (by kernel_rfl) (by kernel_rfl) (fun _ _ _ h => h) (Or.inr ⟨by rfl, rfl⟩) hn ?_
        try simp only [Act.put, List.setIfInBounds_toArray, List.set_cons_zero, List.set_cons_succ]
        refine wpAnyH_take (i := 17) (oi := { dst := some 30, op := Op.move (Operand.tmp 4), type := 3, pos := "expr.go:32", after := #[{ on := 15, ground := Ground.guard }], guard := some (15, true) }) (v := undef) rfl (by kernel_rfl) (by kernel_rfl) (by kernel_rfl) (fun _ _ _ h => h) (Or.inr ⟨by rfl, rfl⟩) hn ?_
        try simp only [Act.put, List.setIfInBounds_toArray, List.set_cons_zero, List.set_cons_succ]
        refine wpAnyH_take (i := 18) (oi := { dst := some 31, op := Op.slice 50 (Operand.tmp 29) none (some (Operand.tmp 30)) none, type := 50, pos := "expr.go:32", after := #[{ on := 16, ground := Ground.data }, { on := 17, ground := Ground.data }, { on := 15, ground := Ground.guard }], guard := some (15, true) }) (v := undef) rfl (by kernel_rfl) (by kernel_rfl) (by kernel_rfl) (fun _ _ _ h => h) (Or.inr ⟨by rfl, rfl⟩) hn ?_
        try simp only [Act.put, List.setIfInBounds_toArray, List.set_cons_zero, List.set_cons_succ]
        refine wpAnyH_take (i := 19) (oi := { dst := some 32, op := Op.call { callee := Callee.value (Operand.func 45), args := #[Operand.tmp 31], argTypes := #[50] }, type := 4, pos := "expr.go:32", after := #[{ on := 18, ground := Ground.data }, { on := 15, ground := Ground.chain }, { on := 15, ground := Ground.guard }], guard := some (15, true) }) (v := undef) rfl (by kernel_rfl) (by kernel_rfl) (by kernel_rfl) (fun _ _ _ h => h) (Or.inr ⟨by rfl, rfl⟩) hn ?_
        try simp only [Act.put, List.setIfInBounds_toArray, List.set_cons_zero, List.set_cons_succ]
        refine wpAnyH_take (i := 20) (oi := { dst := some 33, op := Op.pick (Operand.tmp 28) (Operand.tmp 32) (Operand.const (Value.bool false)), type := 4, pos := "expr.go:32", after := #[{ on := 15, ground := Ground.data }, { on := 19, ground := Ground.data }, { on := 10, ground := Ground.guard }], guard := some (10, false) }) (v := undef) rfl (by kernel_rfl) (by kernel_rfl) (by kernel_rfl) (fun _ _ _ h => h) (Or.inr ⟨by rfl, rfl⟩) hn ?_
        try simp only [Act.put, List.setIfInBounds_toArray, List.set_cons_zero, List.set_cons_succ]
        refine wpAnyH_take (i := 21) (oi := { dst := some 34, op := Op.pick (Operand.tmp 23) (Operand.const (Value.bool true)) (Operand.tmp 33), type := 4, pos := "expr.go:32", after := #[{ on := 10, ground := Ground.data }, { on := 20, ground := Ground.data }], guard := none }) (v := ?v31x21) rfl (by kernel_rfl) (by kernel_rfl) (by kernel_rfl) (fun _ _ _ h => h) (Or.inl ⟨by rfl, ?y31x21⟩) hn ?r31x21
        case y31x21 => (intro wS hS; (try go_simp); (try with_reducible rfl))
        try simp only [Act.put, List.setIfInBounds_toArray, List.set_cons_zero, List.set_cons_succ]
        refine wpAnyH_done (by kernel_rfl) ?_ _
        refine NoPanic.normal ?_
        have HZ := hid (New.trans HN.out hn.1)
        clear hn
        go_wp2_with fail
        go_ret
        exact ⟨_, rfl, iff_of_false (by decide) (fun h => hrq.out (HGO.out.1 h).1), HZ.out⟩
    · have e : i = xs.length := by omega
      subst e
      rw [List.drop_length] at hgo
      have HGO := hid hgo
      have el : vn = n.length := by
        obtain ⟨a', c', e⟩ := hby.rd.shape
        cases e
        rfl
      subst el
      clear hgo hby hnw hfr
      go_wp2_with fail
      go_ret
      refine ⟨_, rfl, ?_, HN.out⟩
      rw [HGO.out, rightGo]
      simp
end Go.Proofs.YtbllpajibhiobaaDoor
