/-
  The laws of the cursor: a want of the document, as the program's.
-/
import Derived.Test.YtkfohickmdkplaaJ25
import Derived.Test.YtkfohickmdkplaaJ14
import Derived.Test.YtkfohickmdkplaaJ29
import Derived.Test.YtkfohickmdkplaaJ17
namespace Go.Proofs.Ytkfohickmdkplaa
open Go.RowKit Go.Proofs.Leb Go.Proofs.Own Go.Proofs.Cur Go.Proofs.Span
set_option maxRecDepth 100000
set_option maxHeartbeats 4000000

noncomputable def wantL (x : Wnt) (r : Int) : List (Nat × Nat) := open Classical in
  if x.kind = 0 then (if hasR x.b1 x.b2 r then [(x.lo, x.hi)] else [])
  else if x.kind = 1 then [((Span.counts x.i1 x.i2 x.b1 x.b2 r).1.toNat, (Span.counts x.i1 x.i2 x.b1 x.b2 r).2.toNat)]
  else if x.kind = 2 then [((Span.sizes x.o1 x.o2 x.b1 x.b2 r).1.toNat, (Span.sizes x.o1 x.o2 x.b1 x.b2 r).2.toNat)]
  else x.picks.flatMap fun y => if hasR y.2.1 y.2.2 r then [(y.1, y.1)] else []

theorem enters_want : Enters 49 := fun args w => by kernel_rfl

theorem want0 (x : Wnt) (pv : Value) (Bw : Nat) (r : Int) (w : World) (hx : WantOk x pv w) (hb : w.heap[Bw]? = some (.cells (valW x pv) 47)) (_ : 0 ≤ r) (_ : r ≤ 1099511627776) (hk : x.kind = 0) :
    Wants 49 #[.pointer (some ⟨Bw, 0, none⟩)] (wantL x) r w := by
  have hpos : 0 ≤ x.b1 := (hx.fine.beh (.inl hk)).1
  have HL : Hid (wantL x r = open Classical in if hasR x.b1 x.b2 r then [(x.lo, x.hi)] else []) := by show _ = _; unfold wantL; rw [if_pos hk]
  obtain ⟨kind, lo, hi, i1, i2, o1, o2, b1, b2, ps⟩ := x
  simp only at *
  subst hk
  unfold valW at hb
  simp only at hb
  have HB := hid hb
  have c0 : w.cell? ⟨Bw, 0, none⟩ = some (.int .i64 0) := by rw [cell_of_row _ Bw 0 _ _ (0, 0) hb]; rfl
  have HC1 : Hid (∀ w', New w w' → w'.cell? ⟨Bw, 1, none⟩ = some (.int .u64 lo)) := fun w' hn => hn.cell (by rw [cell_of_row _ Bw 1 _ _ (0, 0) hb]; rfl) (fun h => h)
  have HC2 : Hid (∀ w', New w w' → w'.cell? ⟨Bw, 2, none⟩ = some (.int .u64 hi)) := fun w' hn => hn.cell (by rw [cell_of_row _ Bw 2 _ _ (0, 0) hb]; rfl) (fun h => h)
  have c7 : w.cell? ⟨Bw, 7, none⟩ = some (.int .i64 b1) := by rw [cell_of_row _ Bw 7 _ _ (0, 0) hb]; rfl
  have c8 : w.cell? ⟨Bw, 8, none⟩ = some (.int .i64 b2) := by rw [cell_of_row _ Bw 8 _ _ (0, 0) hb]; rfl
  have HH := hid (fun w => rHasR_any b1 b2 r w hpos)
  clear hb hx
  unfold Wants
  go_enter Try.func49, Try.ntmps49
  go_wp2_with fail
  refine (HH.out _).mono ?_
  rintro e w1 ⟨c, rfl, hc, hn⟩
  have HN := hid hn
  have HC := hid hc
  have k1 := HC1.out _ hn
  have k2 := HC2.out _ hn
  clear hc hn
  cases c with
  | true =>
    go_wp2_with fail
    go_ret
    refine ⟨_, rfl, ?_, HN.out.alloc _⟩
    rw [HL.out, if_pos (HC.out.1 (by first | rfl | trivial))]
    exact RdP.one _ _ _ _
  | false =>
    go_wp2_with fail
    go_ret
    refine ⟨_, rfl, ?_, HN.out⟩
    rw [HL.out, if_neg (fun h => by have := HC.out.2 h; simp at this)]
    exact ⟨none, 0, rfl, Nat.le_refl _, fun _ => rfl, fun h => absurd rfl h⟩

theorem want1 (x : Wnt) (pv : Value) (Bw : Nat) (r : Int) (w : World) (hx : WantOk x pv w) (hb : w.heap[Bw]? = some (.cells (valW x pv) 47)) (h0 : 0 ≤ r) (h1 : r ≤ 1099511627776) (hk : x.kind = 1) :
    Wants 49 #[.pointer (some ⟨Bw, 0, none⟩)] (wantL x) r w := by
  have HS := hid (fun w => Counts_any x.i1 x.i2 x.b1 x.b2 r w (hx.fine.item hk) (hx.fine.beh (.inr (.inl hk))) h0 h1)
  have hbd := counts_small x.i1 x.i2 x.b1 x.b2 r
  obtain ⟨a, ha⟩ : ∃ a : Nat, (Span.counts x.i1 x.i2 x.b1 x.b2 r).1 = a := ⟨(Span.counts x.i1 x.i2 x.b1 x.b2 r).1.toNat, by omega⟩
  obtain ⟨z, hz⟩ : ∃ z : Nat, (Span.counts x.i1 x.i2 x.b1 x.b2 r).2 = z := ⟨(Span.counts x.i1 x.i2 x.b1 x.b2 r).2.toNat, by omega⟩
  have HL : Hid (wantL x r = [(a, z)]) := by show _ = _; unfold wantL; rw [if_neg (by omega), if_pos hk, ha, hz, Int.toNat_natCast, Int.toNat_natCast]
  rw [ha, hz] at HS
  clear ha hz hbd
  obtain ⟨kind, lo, hi, i1, i2, o1, o2, b1, b2, ps⟩ := x
  simp only at *
  subst hk
  unfold valW at hb
  simp only at hb
  have HB := hid hb
  have c0 : w.cell? ⟨Bw, 0, none⟩ = some (.int .i64 1) := by rw [cell_of_row _ Bw 0 _ _ (0, 0) hb]; rfl
  have HC3 : Hid (∀ w', New w w' → w'.cell? ⟨Bw, 3, none⟩ = some (.int .i64 i1)) := fun w' hn => hn.cell (by rw [cell_of_row _ Bw 3 _ _ (0, 0) hb]; rfl) (fun h => h)
  have HC4 : Hid (∀ w', New w w' → w'.cell? ⟨Bw, 4, none⟩ = some (.int .i64 i2)) := fun w' hn => hn.cell (by rw [cell_of_row _ Bw 4 _ _ (0, 0) hb]; rfl) (fun h => h)
  have HC7 : Hid (∀ w', New w w' → w'.cell? ⟨Bw, 7, none⟩ = some (.int .i64 b1)) := fun w' hn => hn.cell (by rw [cell_of_row _ Bw 7 _ _ (0, 0) hb]; rfl) (fun h => h)
  have HC8 : Hid (∀ w', New w w' → w'.cell? ⟨Bw, 8, none⟩ = some (.int .i64 b2)) := fun w' hn => hn.cell (by rw [cell_of_row _ Bw 8 _ _ (0, 0) hb]; rfl) (fun h => h)
  have HO := hid (fun a b w => own_any a b w)
  clear hb hx
  unfold Wants
  go_enter Try.func49, Try.ntmps49
  go_upto_region 7 with fail
  have hn : New w w.drew := (Upd.refl _ _).drew
  refine wp_region_noPanic ?_
  refine wp_region_held_drew (S := (New w)) (by kernel_rfl) (by first | exact hn | exact (Upd.refl _ _).drew | exact Upd.drew (by assumption)) (fun hn => ?_)
  generalize w.drew = wd at *
  refine wpAnyH_take (i := 0) (oi := { dst := some 22, op := Op.fieldAddr 47 (Operand.tmp 1) 3, type := 0, pos := "law.go:50", after := #[], guard := none }) (v := ?v16x1) rfl (by kernel_rfl) (by kernel_rfl) (by kernel_rfl) (fun _ _ _ h => h) (Or.inl ⟨by rfl, ?y16x1⟩) hn ?r16x1
  case y16x1 => (intro wS hS; (try go_simp); (try with_reducible rfl))
  try simp only [Act.put, List.setIfInBounds_toArray, List.set_cons_zero, List.set_cons_succ]
  refine wpAnyH_take (i := 1) (oi := { dst := some 23, op := Op.load 44 (Operand.tmp 22), type := 44, pos := "law.go:50", after := #[{ on := 0, ground := Ground.data }], guard := none }) (v := ?v16x2) rfl (by kernel_rfl) (by kernel_rfl) (by kernel_rfl) (fun _ _ _ h => h) (Or.inl ⟨by rfl, ?y16x2⟩) hn ?r16x2
  case y16x2 => (intro wS hS; have c3 := HC3.out _ hS; have c4 := HC4.out _ hS; (try go_simp); (try with_reducible rfl))
  try simp only [Act.put, List.setIfInBounds_toArray, List.set_cons_zero, List.set_cons_succ]
  refine wpAnyH_take (i := 3) (oi := { dst := some 25, op := Op.fieldAddr 47 (Operand.tmp 1) 5, type := 0, pos := "law.go:50", after := #[], guard := none }) (v := ?v16x3) rfl (by kernel_rfl) (by kernel_rfl) (by kernel_rfl) (fun _ _ _ h => h) (Or.inl ⟨by rfl, ?y16x3⟩) hn ?r16x3
  case y16x3 => (intro wS hS; (try go_simp); (try with_reducible rfl))
  try simp only [Act.put, List.setIfInBounds_toArray, List.set_cons_zero, List.set_cons_succ]
  refine wpAnyH_take (i := 4) (oi := { dst := some 26, op := Op.load 44 (Operand.tmp 25), type := 44, pos := "law.go:50", after := #[{ on := 3, ground := Ground.data }], guard := none }) (v := ?v16x4) rfl (by kernel_rfl) (by kernel_rfl) (by kernel_rfl) (fun _ _ _ h => h) (Or.inl ⟨by rfl, ?y16x4⟩) hn ?r16x4
  case y16x4 => (intro wS hS; have c7 := HC7.out _ hS; have c8 := HC8.out _ hS; (try go_simp); (try with_reducible rfl))
  try simp only [Act.put, List.setIfInBounds_toArray, List.set_cons_zero, List.set_cons_succ]
  refine wpAnyH_take (i := 6) (oi := { dst := some 28, op := Op.move (Operand.tmp 0), type := 3, pos := "law.go:50", after := #[], guard := none }) (v := ?v16x5) rfl (by kernel_rfl) (by kernel_rfl) (by kernel_rfl) (fun _ _ _ h => h) (Or.inl ⟨by rfl, ?y16x5⟩) hn ?r16x5
  case y16x5 => (intro wS hS; (try go_simp); (try with_reducible rfl))
  try simp only [Act.put, List.setIfInBounds_toArray, List.set_cons_zero, List.set_cons_succ]
  refine wpAnyH_ready (rs := [2]) (by kernel_rfl) (by simp) ?_
  refine AllReadyH.cons (o := { dst := some 24, op := Op.call { callee := Callee.value (Operand.func 24), args := #[Operand.tmp 23], argTypes := #[44] }, type := 68, pos := "law.go:50", after := #[{ on := 1, ground := Ground.data }], guard := none }) rfl (fun K hK => ?_) AllReadyH.nil
  go_simp
  refine (HO.out _ _ _).mono ?_
  rintro e wa ⟨rfl, hna⟩
  go_wp2_with fail
  have hn := New.trans hn hna
  refine hK.out _ _ (by first | exact hn | exact Upd.alloc hn _) (fun hn => ?_)
  clear hK K
  try simp only [Act.put, List.setIfInBounds_toArray, List.set_cons_zero, List.set_cons_succ]
  refine wpAnyH_ready (rs := [5]) (by kernel_rfl) (by simp) ?_
  refine AllReadyH.cons (o := { dst := some 27, op := Op.call { callee := Callee.value (Operand.func 24), args := #[Operand.tmp 26], argTypes := #[44] }, type := 68, pos := "law.go:50", after := #[{ on := 4, ground := Ground.data }, { on := 2, ground := Ground.chain }], guard := none }) rfl (fun K hK => ?_) AllReadyH.nil
  go_simp
  refine (HO.out _ _ _).mono ?_
  rintro e wa ⟨rfl, hna⟩
  go_wp2_with fail
  have hn := New.trans hn hna
  refine hK.out _ _ (by first | exact hn | exact Upd.alloc hn _) (fun hn => ?_)
  clear hK K
  try simp only [Act.put, List.setIfInBounds_toArray, List.set_cons_zero, List.set_cons_succ]
  refine wpAnyH_ready (rs := [7]) (by kernel_rfl) (by simp) ?_
  refine AllReadyH.cons (o := { dst := some 29, op := Op.call { callee := Callee.value (Operand.func 51), args := #[Operand.tmp 24, Operand.tmp 27, Operand.tmp 28], argTypes := #[68, 68, 3] }, type := 87, pos := "law.go:50", after := #[{ on := 2, ground := Ground.data }, { on := 5, ground := Ground.data }, { on := 6, ground := Ground.data }, { on := 5, ground := Ground.chain }], guard := none }) rfl (fun K hK => ?_) AllReadyH.nil
  go_simp
  refine (HS.out _).mono ?_
  rintro e wb ⟨rfl, hnb⟩
  go_wp2_with fail
  have hn := New.trans hn hnb
  refine hK.out _ _ (by first | exact hn | exact Upd.alloc hn _) (fun hn => ?_)
  clear hK K
  try simp only [Act.put, List.setIfInBounds_toArray, List.set_cons_zero, List.set_cons_succ]
  refine wpAnyH_ready (rs := [8]) (by kernel_rfl) (by simp) ?_
  refine AllReadyH.cons (o := { dst := some 30, op := Op.buildSlice 83 1 #[(0, Operand.tmp 29)], type := 83, pos := "law.go:50", after := #[{ on := 7, ground := Ground.data }], guard := none }) rfl (fun K hK => ?_) AllReadyH.nil
  go_simp
  refine hK.out _ _ (by first | exact hn | exact Upd.alloc hn _) (fun hn => ?_)
  clear hK K
  try simp only [Act.put, List.setIfInBounds_toArray, List.set_cons_zero, List.set_cons_succ]
  refine wpAnyH_take (i := 9) (oi := { dst := some 3, op := Op.assign (Operand.tmp 30), type := 83, pos := "law.go:50", after := #[{ on := 8, ground := Ground.data }, { on := 7, ground := Ground.chain }, { on := 0, ground := Ground.phase }, { on := 1, ground := Ground.phase }, { on := 2, ground := Ground.phase }, { on := 3, ground := Ground.phase }, { on := 4, ground := Ground.phase }, { on := 5, ground := Ground.phase }, { on := 6, ground := Ground.phase }, { on := 7, ground := Ground.phase }, { on := 8, ground := Ground.phase }], guard := none }) (v := ?v16x6) rfl (by kernel_rfl) (by kernel_rfl) (by kernel_rfl) (fun _ _ _ h => h) (Or.inl ⟨by rfl, ?y16x6⟩) hn ?r16x6
  case y16x6 => (intro wS hS; (try go_simp); (try with_reducible rfl))
  try simp only [Act.put, List.setIfInBounds_toArray, List.set_cons_zero, List.set_cons_succ]
  refine wpAnyH_done (by kernel_rfl) ?_ _
  refine NoPanic.normal ?_
  go_wp2_with fail
  go_ret
  refine ⟨_, rfl, ?_, hn⟩
  rw [HL.out]
  exact RdP.one _ _ _ _

theorem want2 (x : Wnt) (pv : Value) (Bw : Nat) (r : Int) (w : World) (hx : WantOk x pv w) (hb : w.heap[Bw]? = some (.cells (valW x pv) 47)) (h0 : 0 ≤ r) (h1 : r ≤ 1099511627776) (hk : x.kind = 2) :
    Wants 49 #[.pointer (some ⟨Bw, 0, none⟩)] (wantL x) r w := by
  have HS := hid (fun w => Sizes_any x.o1 x.o2 x.b1 x.b2 r w (hx.fine.own hk) (hx.fine.beh (.inr (.inr hk))) h0 h1)
  have hbd := sizes_small x.o1 x.o2 x.b1 x.b2 r
  obtain ⟨a, ha⟩ : ∃ a : Nat, (Span.sizes x.o1 x.o2 x.b1 x.b2 r).1 = a := ⟨(Span.sizes x.o1 x.o2 x.b1 x.b2 r).1.toNat, by omega⟩
  obtain ⟨z, hz⟩ : ∃ z : Nat, (Span.sizes x.o1 x.o2 x.b1 x.b2 r).2 = z := ⟨(Span.sizes x.o1 x.o2 x.b1 x.b2 r).2.toNat, by omega⟩
  have HL : Hid (wantL x r = [(a, z)]) := by show _ = _; unfold wantL; rw [if_neg (by omega), if_neg (by omega), if_pos hk, ha, hz, Int.toNat_natCast, Int.toNat_natCast]
  rw [ha, hz] at HS
  clear ha hz hbd
  obtain ⟨kind, lo, hi, i1, i2, o1, o2, b1, b2, ps⟩ := x
  simp only at *
  subst hk
  unfold valW at hb
  simp only at hb
  have HB := hid hb
  have c0 : w.cell? ⟨Bw, 0, none⟩ = some (.int .i64 2) := by rw [cell_of_row _ Bw 0 _ _ (0, 0) hb]; rfl
  have HC3 : Hid (∀ w', New w w' → w'.cell? ⟨Bw, 5, none⟩ = some (.int .i64 o1)) := fun w' hn => hn.cell (by rw [cell_of_row _ Bw 5 _ _ (0, 0) hb]; rfl) (fun h => h)
  have HC4 : Hid (∀ w', New w w' → w'.cell? ⟨Bw, 6, none⟩ = some (.int .i64 o2)) := fun w' hn => hn.cell (by rw [cell_of_row _ Bw 6 _ _ (0, 0) hb]; rfl) (fun h => h)
  have HC7 : Hid (∀ w', New w w' → w'.cell? ⟨Bw, 7, none⟩ = some (.int .i64 b1)) := fun w' hn => hn.cell (by rw [cell_of_row _ Bw 7 _ _ (0, 0) hb]; rfl) (fun h => h)
  have HC8 : Hid (∀ w', New w w' → w'.cell? ⟨Bw, 8, none⟩ = some (.int .i64 b2)) := fun w' hn => hn.cell (by rw [cell_of_row _ Bw 8 _ _ (0, 0) hb]; rfl) (fun h => h)
  have HO := hid (fun a b w => own_any a b w)
  clear hb hx
  unfold Wants
  go_enter Try.func49, Try.ntmps49
  go_upto_region 9 with fail
  have hn : New w w.drew := (Upd.refl _ _).drew
  refine wp_region_noPanic ?_
  refine wp_region_held_drew (S := (New w)) (by kernel_rfl) (by first | exact hn | exact (Upd.refl _ _).drew | exact Upd.drew (by assumption)) (fun hn => ?_)
  generalize w.drew = wd at *
  refine wpAnyH_take (i := 0) (oi := { dst := some 33, op := Op.fieldAddr 47 (Operand.tmp 1) 4, type := 0, pos := "law.go:52", after := #[], guard := none }) (v := ?v17x1) rfl (by kernel_rfl) (by kernel_rfl) (by kernel_rfl) (fun _ _ _ h => h) (Or.inl ⟨by rfl, ?y17x1⟩) hn ?r17x1
  case y17x1 => (intro wS hS; (try go_simp); (try with_reducible rfl))
  try simp only [Act.put, List.setIfInBounds_toArray, List.set_cons_zero, List.set_cons_succ]
  refine wpAnyH_take (i := 1) (oi := { dst := some 34, op := Op.load 44 (Operand.tmp 33), type := 44, pos := "law.go:52", after := #[{ on := 0, ground := Ground.data }], guard := none }) (v := ?v17x2) rfl (by kernel_rfl) (by kernel_rfl) (by kernel_rfl) (fun _ _ _ h => h) (Or.inl ⟨by rfl, ?y17x2⟩) hn ?r17x2
  case y17x2 => (intro wS hS; have c3 := HC3.out _ hS; have c4 := HC4.out _ hS; (try go_simp); (try with_reducible rfl))
  try simp only [Act.put, List.setIfInBounds_toArray, List.set_cons_zero, List.set_cons_succ]
  refine wpAnyH_take (i := 3) (oi := { dst := some 36, op := Op.fieldAddr 47 (Operand.tmp 1) 5, type := 0, pos := "law.go:52", after := #[], guard := none }) (v := ?v17x3) rfl (by kernel_rfl) (by kernel_rfl) (by kernel_rfl) (fun _ _ _ h => h) (Or.inl ⟨by rfl, ?y17x3⟩) hn ?r17x3
  case y17x3 => (intro wS hS; (try go_simp); (try with_reducible rfl))
  try simp only [Act.put, List.setIfInBounds_toArray, List.set_cons_zero, List.set_cons_succ]
  refine wpAnyH_take (i := 4) (oi := { dst := some 37, op := Op.load 44 (Operand.tmp 36), type := 44, pos := "law.go:52", after := #[{ on := 3, ground := Ground.data }], guard := none }) (v := ?v17x4) rfl (by kernel_rfl) (by kernel_rfl) (by kernel_rfl) (fun _ _ _ h => h) (Or.inl ⟨by rfl, ?y17x4⟩) hn ?r17x4
  case y17x4 => (intro wS hS; have c7 := HC7.out _ hS; have c8 := HC8.out _ hS; (try go_simp); (try with_reducible rfl))
  try simp only [Act.put, List.setIfInBounds_toArray, List.set_cons_zero, List.set_cons_succ]
  refine wpAnyH_take (i := 6) (oi := { dst := some 39, op := Op.move (Operand.tmp 0), type := 3, pos := "law.go:52", after := #[], guard := none }) (v := ?v17x5) rfl (by kernel_rfl) (by kernel_rfl) (by kernel_rfl) (fun _ _ _ h => h) (Or.inl ⟨by rfl, ?y17x5⟩) hn ?r17x5
  case y17x5 => (intro wS hS; (try go_simp); (try with_reducible rfl))
  try simp only [Act.put, List.setIfInBounds_toArray, List.set_cons_zero, List.set_cons_succ]
  refine wpAnyH_ready (rs := [2]) (by kernel_rfl) (by simp) ?_
  refine AllReadyH.cons (o := { dst := some 35, op := Op.call { callee := Callee.value (Operand.func 24), args := #[Operand.tmp 34], argTypes := #[44] }, type := 68, pos := "law.go:52", after := #[{ on := 1, ground := Ground.data }], guard := none }) rfl (fun K hK => ?_) AllReadyH.nil
  go_simp
  refine (HO.out _ _ _).mono ?_
  rintro e wa ⟨rfl, hna⟩
  go_wp2_with fail
  have hn := New.trans hn hna
  refine hK.out _ _ (by first | exact hn | exact Upd.alloc hn _) (fun hn => ?_)
  clear hK K
  try simp only [Act.put, List.setIfInBounds_toArray, List.set_cons_zero, List.set_cons_succ]
  refine wpAnyH_ready (rs := [5]) (by kernel_rfl) (by simp) ?_
  refine AllReadyH.cons (o := { dst := some 38, op := Op.call { callee := Callee.value (Operand.func 24), args := #[Operand.tmp 37], argTypes := #[44] }, type := 68, pos := "law.go:52", after := #[{ on := 4, ground := Ground.data }, { on := 2, ground := Ground.chain }], guard := none }) rfl (fun K hK => ?_) AllReadyH.nil
  go_simp
  refine (HO.out _ _ _).mono ?_
  rintro e wa ⟨rfl, hna⟩
  go_wp2_with fail
  have hn := New.trans hn hna
  refine hK.out _ _ (by first | exact hn | exact Upd.alloc hn _) (fun hn => ?_)
  clear hK K
  try simp only [Act.put, List.setIfInBounds_toArray, List.set_cons_zero, List.set_cons_succ]
  refine wpAnyH_ready (rs := [7]) (by kernel_rfl) (by simp) ?_
  refine AllReadyH.cons (o := { dst := some 40, op := Op.call { callee := Callee.value (Operand.func 52), args := #[Operand.tmp 35, Operand.tmp 38, Operand.tmp 39], argTypes := #[68, 68, 3] }, type := 87, pos := "law.go:52", after := #[{ on := 2, ground := Ground.data }, { on := 5, ground := Ground.data }, { on := 6, ground := Ground.data }, { on := 5, ground := Ground.chain }], guard := none }) rfl (fun K hK => ?_) AllReadyH.nil
  go_simp
  refine (HS.out _).mono ?_
  rintro e wb ⟨rfl, hnb⟩
  go_wp2_with fail
  have hn := New.trans hn hnb
  refine hK.out _ _ (by first | exact hn | exact Upd.alloc hn _) (fun hn => ?_)
  clear hK K
  try simp only [Act.put, List.setIfInBounds_toArray, List.set_cons_zero, List.set_cons_succ]
  refine wpAnyH_ready (rs := [8]) (by kernel_rfl) (by simp) ?_
  refine AllReadyH.cons (o := { dst := some 41, op := Op.buildSlice 83 1 #[(0, Operand.tmp 40)], type := 83, pos := "law.go:52", after := #[{ on := 7, ground := Ground.data }], guard := none }) rfl (fun K hK => ?_) AllReadyH.nil
  go_simp
  refine hK.out _ _ (by first | exact hn | exact Upd.alloc hn _) (fun hn => ?_)
  clear hK K
  try simp only [Act.put, List.setIfInBounds_toArray, List.set_cons_zero, List.set_cons_succ]
  refine wpAnyH_take (i := 9) (oi := { dst := some 3, op := Op.assign (Operand.tmp 41), type := 83, pos := "law.go:52", after := #[{ on := 8, ground := Ground.data }, { on := 7, ground := Ground.chain }, { on := 0, ground := Ground.phase }, { on := 1, ground := Ground.phase }, { on := 2, ground := Ground.phase }, { on := 3, ground := Ground.phase }, { on := 4, ground := Ground.phase }, { on := 5, ground := Ground.phase }, { on := 6, ground := Ground.phase }, { on := 7, ground := Ground.phase }, { on := 8, ground := Ground.phase }], guard := none }) (v := ?v17x6) rfl (by kernel_rfl) (by kernel_rfl) (by kernel_rfl) (fun _ _ _ h => h) (Or.inl ⟨by rfl, ?y17x6⟩) hn ?r17x6
  case y17x6 => (intro wS hS; (try go_simp); (try with_reducible rfl))
  try simp only [Act.put, List.setIfInBounds_toArray, List.set_cons_zero, List.set_cons_succ]
  refine wpAnyH_done (by kernel_rfl) ?_ _
  refine NoPanic.normal ?_
  go_wp2_with fail
  go_ret
  refine ⟨_, rfl, ?_, hn⟩
  rw [HL.out]
  exact RdP.one _ _ _ _

/-- what a pick allows -/
noncomputable def pickL (r : Int) (y : Nat × Int × Int) : List (Nat × Nat) := open Classical in if hasR y.2.1 y.2.2 r then [(y.1, y.1)] else []
theorem pickL_len (r : Int) : ∀ l : List (Nat × Int × Int), (l.flatMap (pickL r)).length ≤ l.length
  | [] => Nat.le_refl _
  | y :: t => by
    have h1 := pickL_len r t
    have h2 : (pickL r y).length ≤ 1 := by unfold pickL; split <;> simp
    simp only [List.flatMap_cons, List.length_append, List.length_cons]
    omega

theorem want3 (x : Wnt) (pv : Value) (Bw : Nat) (r : Int) (w : World) (hx : WantOk x pv w) (hb : w.heap[Bw]? = some (.cells (valW x pv) 47)) (hk : x.kind = 3) :
    Wants 49 #[.pointer (some ⟨Bw, 0, none⟩)] (wantL x) r w := by
  have HL : Hid (wantL x r = x.picks.flatMap (pickL r)) := by show _ = _; unfold wantL; rw [if_neg (by omega), if_neg (by omega), if_neg (by omega)]; rfl
  obtain ⟨-, -, hrd, hfew, hpos, -⟩ := hx
  obtain ⟨kind, lo, hi, i1, i2, o1, o2, b1, b2, ps⟩ := x
  simp only at *
  subst hk
  unfold valW at hb
  simp only at hb
  have c0 : w.cell? ⟨Bw, 0, none⟩ = some (.int .i64 3) := by rw [cell_of_row _ Bw 0 _ _ (0, 0) hb]; rfl
  have HC9 : Hid (∀ w', New w w' → w'.cell? ⟨Bw, 9, none⟩ = some pv) := fun w' hn => hn.cell (by rw [cell_of_row _ Bw 9 _ _ (0, 0) hb]; rfl) (fun h => h)
  have HP := hid hrd
  have HPB := hid hpos
  obtain ⟨ao, cap, rfl⟩ := hrd.shape
  clear hb hrd hpos
  unfold Wants
  go_enter Try.func49, Try.ntmps49
  go_wp2_with fail
  go_loopg [4, 5] ps.length (fun k v c wr => ∃ i : Nat, k = ps.length - i ∧ c = .int .i64 i ∧ i ≤ ps.length ∧ Pairs wr v ((ps.take i).flatMap (pickL r)) ∧ New w wr ∧ Fresh w v)
  case atStart => exact ⟨0, by simp, rfl, Nat.zero_le _, Pairs.nil _, Upd.refl _ _, (fun k h => by cases h)⟩
  case round =>
    obtain ⟨i, rfl, rfl, hi1, hp, hw, hf⟩ := hrel
    have HPP := hid hp
    have HW := hid hw
    have HF := hid hf
    have c9 := HC9.out _ hw
    obtain ⟨wo, rfl⟩ : ∃ wo : World, wo = wr := ⟨_, rfl⟩
    clear hp hw hf
    by_cases hlt : i < ps.length
    · obtain ⟨_, _, e, _, _, hcell⟩ := HP.out
      obtain ⟨bl, of, rfl, hcl⟩ := hcell (by intro h; subst h; simp at hlt)
      cases e
      have D0 : Hid (∀ w', New w w' → w'.cell? ⟨bl, of + i * 3, none⟩ = some (.int .u64 ps[i].1)) := fun w' hn => hn.cell (hcl i hlt).1 (fun h => h)
      have d1 := HW.out.cell (hcl i hlt).2.1 (fun h => h)
      have d2 := HW.out.cell (hcl i hlt).2.2 (fun h => h)
      have hpb := HPB.out ps[i] (List.getElem_mem _)
      have HNX : Hid ((ps.take (i + 1)).flatMap (pickL r) = (ps.take i).flatMap (pickL r) ++ pickL r ps[i]) := by
        show _ = _
        rw [List.take_succ_eq_append_getElem hlt, List.flatMap_append]
        simp
      have HPK : Hid ((hasR ps[i].2.1 ps[i].2.2 r → pickL r ps[i] = [(ps[i].1, ps[i].1)]) ∧ (¬ hasR ps[i].2.1 ps[i].2.2 r → pickL r ps[i] = [])) := ⟨fun h => if_pos h, fun h => if_neg h⟩
      have HH := hid (fun w => rHasR_any ps[i].2.1 ps[i].2.2 r w hpb)
      have hlen : ((ps.take i).flatMap (pickL r)).length ≤ 1000000 := by have := pickL_len r (ps.take i); have := List.length_take_le i ps; omega
      have HLN := hid hlen
      obtain ⟨PL, hPL⟩ : ∃ PL, pickL r ps[i] = PL := ⟨_, rfl⟩
      rw [hPL] at HNX HPK
      obtain ⟨V, hV⟩ : ∃ V, ps[i].1 = V := ⟨_, rfl⟩
      obtain ⟨y1, hy1⟩ : ∃ y, ps[i].2.1 = y := ⟨_, rfl⟩
      obtain ⟨y2, hy2⟩ : ∃ y, ps[i].2.2 = y := ⟨_, rfl⟩
      rw [hV] at D0 HPK
      rw [hy1] at d1 HPK HH
      rw [hy2] at d2 HPK HH
      clear hV hy1 hy2 hcl hcell hpb hPL hlen
      go_wp2_with fail
      refine (HH.out _).mono ?_
      rintro e w3 ⟨b, rfl, hb, hn3⟩
      have HB := hid hb
      have hn := New.trans HW.out hn3
      have HN3 := hid hn
      clear hb d1 d2 c9
      cases b with
      | true =>
        have hpw0 := HPP.out.new hn3
        have HP0 := hid hpw0
        clear hpw0 hn3
        go_upto_region 15 with fail
        have hd3 : New w3 w3.drew := (Upd.refl _ _).drew
        have hn := New.trans hn hd3
        refine wp_region_noPanic ?_
        refine wp_region_held_drew (S := (New w)) (by kernel_rfl) (by first | exact hn | exact (Upd.refl _ _).drew | exact Upd.drew (by assumption)) (fun hn => ?_)
        generalize w3.drew = wd at *
        refine wpAnyH_take (i := 0) (oi := { dst := some 57, op := Op.move (Operand.tmp 4), type := 83, pos := "law.go:57", after := #[], guard := none }) (v := ?v18x1) rfl (by kernel_rfl) (by kernel_rfl) (by kernel_rfl) (fun _ _ _ h => h) (Or.inl ⟨by rfl, ?y18x1⟩) hn ?r18x1
        case y18x1 => (intro wS hS; (try go_simp); (try with_reducible rfl))
        try simp only [Act.put, List.setIfInBounds_toArray, List.set_cons_zero, List.set_cons_succ]
        refine wpAnyH_take (i := 1) (oi := { dst := some 58, op := Op.fieldAddr 47 (Operand.tmp 1) 6, type := 0, pos := "law.go:57", after := #[], guard := none }) (v := ?v18x2) rfl (by kernel_rfl) (by kernel_rfl) (by kernel_rfl) (fun _ _ _ h => h) (Or.inl ⟨by rfl, ?y18x2⟩) hn ?r18x2
        case y18x2 => (intro wS hS; (try go_simp); (try with_reducible rfl))
        try simp only [Act.put, List.setIfInBounds_toArray, List.set_cons_zero, List.set_cons_succ]
        refine wpAnyH_take (i := 2) (oi := { dst := some 59, op := Op.load 45 (Operand.tmp 58), type := 45, pos := "law.go:57", after := #[{ on := 1, ground := Ground.data }], guard := none }) (v := ?v18x3) rfl (by kernel_rfl) (by kernel_rfl) (by kernel_rfl) (fun _ _ _ h => h) (Or.inl ⟨by rfl, ?y18x3⟩) hn ?r18x3
        case y18x3 => (intro wS hS; have c9 := HC9.out _ hS; (try go_simp); (try with_reducible rfl))
        try simp only [Act.put, List.setIfInBounds_toArray, List.set_cons_zero, List.set_cons_succ]
        refine wpAnyH_take (i := 3) (oi := { dst := some 60, op := Op.move (Operand.tmp 5), type := 3, pos := "law.go:57", after := #[], guard := none }) (v := ?v18x4) rfl (by kernel_rfl) (by kernel_rfl) (by kernel_rfl) (fun _ _ _ h => h) (Or.inl ⟨by rfl, ?y18x4⟩) hn ?r18x4
        case y18x4 => (intro wS hS; (try go_simp); (try with_reducible rfl))
        try simp only [Act.put, List.setIfInBounds_toArray, List.set_cons_zero, List.set_cons_succ]
        refine wpAnyH_take (i := 4) (oi := { dst := some 61, op := Op.indexAddr 45 (Operand.tmp 59) (Operand.tmp 60), type := 0, pos := "law.go:57", after := #[{ on := 2, ground := Ground.data }, { on := 3, ground := Ground.data }], guard := none }) (v := ?v18x5) rfl (by kernel_rfl) (by kernel_rfl) (by kernel_rfl) (fun _ _ _ h => h) (Or.inl ⟨by rfl, ?y18x5⟩) hn ?r18x5
        case y18x5 => (intro wS hS; (try go_simp); (try with_reducible rfl))
        try simp only [Act.put, List.setIfInBounds_toArray, List.set_cons_zero, List.set_cons_succ]
        refine wpAnyH_take (i := 5) (oi := { dst := some 62, op := Op.fieldAddr 52 (Operand.tmp 61) 0, type := 0, pos := "law.go:57", after := #[{ on := 4, ground := Ground.data }], guard := none }) (v := ?v18x6) rfl (by kernel_rfl) (by kernel_rfl) (by kernel_rfl) (fun _ _ _ h => h) (Or.inl ⟨by rfl, ?y18x6⟩) hn ?r18x6
        case y18x6 => (intro wS hS; (try go_simp); (try with_reducible rfl))
        try simp only [Act.put, List.setIfInBounds_toArray, List.set_cons_zero, List.set_cons_succ]
        refine wpAnyH_take (i := 6) (oi := { dst := some 63, op := Op.load 42 (Operand.tmp 62), type := 42, pos := "law.go:57", after := #[{ on := 5, ground := Ground.data }], guard := none }) (v := ?v18x7) rfl (by kernel_rfl) (by kernel_rfl) (by kernel_rfl) (fun _ _ _ h => h) (Or.inl ⟨by rfl, ?y18x7⟩) hn ?r18x7
        case y18x7 => (intro wS hS; have d0 := D0.out _ hS; (try go_simp); (try with_reducible rfl))
        try simp only [Act.put, List.setIfInBounds_toArray, List.set_cons_zero, List.set_cons_succ]
        refine wpAnyH_take (i := 7) (oi := { dst := some 64, op := Op.fieldAddr 47 (Operand.tmp 1) 6, type := 0, pos := "law.go:57", after := #[], guard := none }) (v := ?v18x8) rfl (by kernel_rfl) (by kernel_rfl) (by kernel_rfl) (fun _ _ _ h => h) (Or.inl ⟨by rfl, ?y18x8⟩) hn ?r18x8
        case y18x8 => (intro wS hS; (try go_simp); (try with_reducible rfl))
        try simp only [Act.put, List.setIfInBounds_toArray, List.set_cons_zero, List.set_cons_succ]
        refine wpAnyH_take (i := 8) (oi := { dst := some 65, op := Op.load 45 (Operand.tmp 64), type := 45, pos := "law.go:57", after := #[{ on := 7, ground := Ground.data }], guard := none }) (v := ?v18x9) rfl (by kernel_rfl) (by kernel_rfl) (by kernel_rfl) (fun _ _ _ h => h) (Or.inl ⟨by rfl, ?y18x9⟩) hn ?r18x9
        case y18x9 => (intro wS hS; have c9 := HC9.out _ hS; (try go_simp); (try with_reducible rfl))
        try simp only [Act.put, List.setIfInBounds_toArray, List.set_cons_zero, List.set_cons_succ]
        refine wpAnyH_take (i := 9) (oi := { dst := some 66, op := Op.move (Operand.tmp 5), type := 3, pos := "law.go:57", after := #[], guard := none }) (v := ?v18x10) rfl (by kernel_rfl) (by kernel_rfl) (by kernel_rfl) (fun _ _ _ h => h) (Or.inl ⟨by rfl, ?y18x10⟩) hn ?r18x10
        case y18x10 => (intro wS hS; (try go_simp); (try with_reducible rfl))
        try simp only [Act.put, List.setIfInBounds_toArray, List.set_cons_zero, List.set_cons_succ]
        refine wpAnyH_take (i := 10) (oi := { dst := some 67, op := Op.indexAddr 45 (Operand.tmp 65) (Operand.tmp 66), type := 0, pos := "law.go:57", after := #[{ on := 8, ground := Ground.data }, { on := 9, ground := Ground.data }], guard := none }) (v := ?v18x11) rfl (by kernel_rfl) (by kernel_rfl) (by kernel_rfl) (fun _ _ _ h => h) (Or.inl ⟨by rfl, ?y18x11⟩) hn ?r18x11
        case y18x11 => (intro wS hS; (try go_simp); (try with_reducible rfl))
        try simp only [Act.put, List.setIfInBounds_toArray, List.set_cons_zero, List.set_cons_succ]
        refine wpAnyH_take (i := 11) (oi := { dst := some 68, op := Op.fieldAddr 52 (Operand.tmp 67) 0, type := 0, pos := "law.go:57", after := #[{ on := 10, ground := Ground.data }], guard := none }) (v := ?v18x12) rfl (by kernel_rfl) (by kernel_rfl) (by kernel_rfl) (fun _ _ _ h => h) (Or.inl ⟨by rfl, ?y18x12⟩) hn ?r18x12
        case y18x12 => (intro wS hS; (try go_simp); (try with_reducible rfl))
        try simp only [Act.put, List.setIfInBounds_toArray, List.set_cons_zero, List.set_cons_succ]
        refine wpAnyH_take (i := 12) (oi := { dst := some 69, op := Op.load 42 (Operand.tmp 68), type := 42, pos := "law.go:57", after := #[{ on := 11, ground := Ground.data }], guard := none }) (v := ?v18x13) rfl (by kernel_rfl) (by kernel_rfl) (by kernel_rfl) (fun _ _ _ h => h) (Or.inl ⟨by rfl, ?y18x13⟩) hn ?r18x13
        case y18x13 => (intro wS hS; have d0 := D0.out _ hS; (try go_simp); (try with_reducible rfl))
        try simp only [Act.put, List.setIfInBounds_toArray, List.set_cons_zero, List.set_cons_succ]
        refine wpAnyH_take (i := 13) (oi := { dst := some 70, op := Op.build 87 #[(0, Operand.tmp 63), (1, Operand.tmp 69)], type := 87, pos := "law.go:57", after := #[{ on := 6, ground := Ground.data }, { on := 12, ground := Ground.data }], guard := none }) (v := ?v18x14) rfl (by kernel_rfl) (by kernel_rfl) (by kernel_rfl) (fun _ _ _ h => h) (Or.inl ⟨by rfl, ?y18x14⟩) hn ?r18x14
        case y18x14 => (intro wS hS; (try go_simp); (try with_reducible rfl))
        try simp only [Act.put, List.setIfInBounds_toArray, List.set_cons_zero, List.set_cons_succ]
        refine wpAnyH_ready (rs := [14]) (by kernel_rfl) (by simp) ?_
        refine AllReadyH.cons (o := { dst := some 71, op := Op.buildSlice 83 1 #[(0, Operand.tmp 70)], type := 83, pos := "law.go:57", after := #[{ on := 13, ground := Ground.data }], guard := none }) rfl (fun K hK => ?_) AllReadyH.nil
        go_simp
        refine allocStep hn ?_
        intro W2 hu hn hz
        have hpw := HP0.out.new (New.trans hd3 hu)
        refine hK.out _ _ (by first | exact hn | exact Upd.alloc hn _) (fun hn => ?_)
        clear hK K
        try simp only [Act.put, List.setIfInBounds_toArray, List.set_cons_zero, List.set_cons_succ]
        refine wpAnyH_ready (rs := [15]) (by kernel_rfl) (by simp) ?_
        refine AllReadyH.cons (o := { dst := some 72, op := Op.call { callee := Callee.builtin Builtin.append, args := #[Operand.tmp 57, Operand.tmp 71], argTypes := #[83, 83] }, type := 83, pos := "law.go:57", after := #[{ on := 0, ground := Ground.data }, { on := 14, ground := Ground.data }], guard := none }) rfl (fun K hK => ?_) AllReadyH.nil
        refine stepP _ _ V V hpw hz HLN.out rfl rfl rfl rfl ?_
        intro va wa hpa haa
        have hf := HF.out.adds hn.size haa
        have hn := Upd.newAdds hn HF.out haa
        refine hK.out _ _ (by first | exact hn | exact Upd.alloc hn _) (fun hn => ?_)
        clear hK K
        try simp only [Act.put, List.setIfInBounds_toArray, List.set_cons_zero, List.set_cons_succ]
        refine wpAnyH_take (i := 16) (oi := { dst := some 4, op := Op.assign (Operand.tmp 72), type := 83, pos := "law.go:57", after := #[{ on := 15, ground := Ground.data }, { on := 15, ground := Ground.chain }, { on := 0, ground := Ground.phase }, { on := 1, ground := Ground.phase }, { on := 2, ground := Ground.phase }, { on := 3, ground := Ground.phase }, { on := 4, ground := Ground.phase }, { on := 5, ground := Ground.phase }, { on := 6, ground := Ground.phase }, { on := 7, ground := Ground.phase }, { on := 8, ground := Ground.phase }, { on := 9, ground := Ground.phase }, { on := 10, ground := Ground.phase }, { on := 11, ground := Ground.phase }, { on := 12, ground := Ground.phase }, { on := 13, ground := Ground.phase }, { on := 14, ground := Ground.phase }, { on := 15, ground := Ground.phase }], guard := none }) (v := ?v18x15) rfl (by kernel_rfl) (by kernel_rfl) (by kernel_rfl) (fun _ _ _ h => h) (Or.inl ⟨by rfl, ?y18x15⟩) hn ?r18x15
        case y18x15 => (intro wS hS; (try go_simp); (try with_reducible rfl))
        try simp only [Act.put, List.setIfInBounds_toArray, List.set_cons_zero, List.set_cons_succ]
        refine wpAnyH_done (by kernel_rfl) ?_ _
        refine NoPanic.normal ?_
        go_wp2_with fail
        go_roundg (ps.length - (i + 1))
        case measure => omega
        case rel =>
          refine ⟨i + 1, rfl, by go_num, by omega, ?_, hn, hf⟩
          rw [HNX.out, HPK.out.1 (HB.out.1 (by first | rfl | trivial))]
          exact hpa
      | false =>
        go_wp2_with fail
        go_roundg (ps.length - (i + 1))
        case measure => omega
        case rel =>
          refine ⟨i + 1, rfl, by go_num, by omega, ?_, HN3.out, HF.out⟩
          rw [HNX.out, HPK.out.2 (fun h => by have := HB.out.2 h; simp at this), List.append_nil]
          exact HPP.out.new hn3
    · obtain rfl : i = ps.length := by omega
      go_wp2_with fail
      go_ret
      refine ⟨_, rfl, ?_, HW.out⟩
      rw [HL.out]
      have := HPP.out.rdp
      rw [List.take_length] at this
      exact this

/-- the function value of a want answers which numbers may stand -/
theorem want_any (x : Wnt) (pv : Value) (Bw : Nat) (r : Int) (w : World) (hx : WantOk x pv w) (hb : w.heap[Bw]? = some (.cells (valW x pv) 47)) (h0 : 0 ≤ r) (h1 : r ≤ 1099511627776) :
    Wants 49 #[.pointer (some ⟨Bw, 0, none⟩)] (wantL x) r w := by
  rcases hx.kind with hk | hk | hk | hk
  · exact want0 x pv Bw r w hx hb h0 h1 hk
  · exact want1 x pv Bw r w hx hb h0 h1 hk
  · exact want2 x pv Bw r w hx hb h0 h1 hk
  · exact want3 x pv Bw r w hx hb hk
theorem wantL_few {x : Wnt} {pv : Value} {w : World} (hx : WantOk x pv w) (r : Int) : Few (wantL x r) := by
  unfold wantL
  split
  · split
    · exact few1 _ _ hx.fine.lo hx.fine.hi
    · exact ⟨by simp, fun i h => by simp at h⟩
  · split
    · have := counts_small x.i1 x.i2 x.b1 x.b2 r
      exact few1 _ _ (by omega) (by omega)
    · split
      · have := sizes_small x.o1 x.o2 x.b1 x.b2 r
        exact few1 _ _ (by omega) (by omega)
      · have hl := pickL_len r x.picks
        refine ⟨Nat.le_trans hl hx.few, fun i h => ?_⟩
        have hm : (x.picks.flatMap (pickL r))[i] ∈ x.picks.flatMap (pickL r) := List.getElem_mem _
        obtain ⟨y, hy, hz⟩ := List.mem_flatMap.1 hm
        have hn := hx.num y hy
        have he : (x.picks.flatMap (pickL r))[i] = (y.1, y.1) := by
          generalize (x.picks.flatMap (pickL r))[i] = z at hz
          unfold pickL at hz
          split at hz
          · simpa using hz
          · simp at hz
        show ((x.picks.flatMap (pickL r))[i]).1 < _ ∧ ((x.picks.flatMap (pickL r))[i]).2 < _
        rw [he]
        exact ⟨hn, hn⟩
/-- what it answers is what the document allows -/
theorem wantL_may {x : Wnt} {pv : Value} {w : World} (hx : WantOk x pv w) (r : Int) (n : Nat) (h0 : 0 ≤ r) (h1 : r ≤ 1099511627776) (hn : n < 4294967296) : inW (wantL x) r n ↔ x.may r n := by
  unfold inW wantL Wnt.may
  simp only [h0, hn, true_and]
  rcases hx.kind with hk | hk | hk | hk
  · rw [if_pos hk, if_pos hk]
    split
    · rename_i h; simp [h]
    · rename_i h; simp [h]
  · have hc := Span.counts_makes (n := n) (hx.fine.item hk) (hx.fine.beh (.inr (.inl hk))) h0 h1 (by omega) (by omega)
    have hs := counts_small x.i1 x.i2 x.b1 x.b2 r
    rw [if_neg (by omega), if_pos hk, if_neg (by omega), if_pos hk]
    rw [hc]
    simp only [List.mem_singleton, exists_eq_left]
    omega
  · have hc := Span.sizes_parts (v := n) (hx.fine.own hk) (hx.fine.beh (.inr (.inr hk))) h0 h1 (by omega) (by omega)
    have hs := sizes_small x.o1 x.o2 x.b1 x.b2 r
    rw [if_neg (by omega), if_neg (by omega), if_pos hk, if_neg (by omega), if_neg (by omega), if_pos hk]
    rw [hc]
    simp only [List.mem_singleton, exists_eq_left]
    omega
  · rw [if_neg (by omega), if_neg (by omega), if_neg (by omega), if_neg (by omega), if_neg (by omega), if_neg (by omega)]
    constructor
    · rintro ⟨z, hz, h2, h3⟩
      obtain ⟨y, hy, hz⟩ := List.mem_flatMap.1 hz
      split at hz
      · rename_i hh
        simp only [List.mem_singleton] at hz
        subst hz
        exact ⟨y, hy, by simp only at h2 h3; omega, hh⟩
      · simp at hz
    · rintro ⟨y, hy, rfl, hh⟩
      exact ⟨(y.1, y.1), List.mem_flatMap.2 ⟨y, hy, by rw [if_pos hh]; simp⟩, Nat.le_refl _, Nat.le_refl _⟩
end Go.Proofs.Ytkfohickmdkplaa
