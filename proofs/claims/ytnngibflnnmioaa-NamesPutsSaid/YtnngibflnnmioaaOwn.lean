/-
  An instruction of the document as the program's.
-/
import Derived.Test.YtnngibflnnmioaaRrd
import Derived.Test.YtnngibflnnmioaaApn
namespace Go.Proofs.Ytnngibflnnmioaa
open Go.RowKit Go.Proofs.Leb Go.Proofs.Own
set_option maxRecDepth 100000
set_option maxHeartbeats 8000000

def OwnP (m : Ins) (w : World) (e : Ending) (w' : World) : Prop :=
  ∃ l' u', e = .returned (pI m l' u') ∧ RdM .u32 w' l' m.li ∧ Rd w' u' (lb m.ty) ∧ New w w' ∧ Fresh w l' ∧ Fresh w u' ∧ (∀ k, l'.ownBlock = some k → k < w'.heap.size) ∧ (∀ k, u'.ownBlock = some k → k < w'.heap.size)
theorem fresh_ne {w0 : World} {v : Value} {g : Nat} (hf : Fresh w0 v) (hg : g < w0.heap.size) : v.ownBlock ≠ some g := fun e => by
  have := hf g e
  omega
theorem hpB {w w' : World} {g : Nat} {o : Obj} {v v' : Value} (h : w.heap[g]? = some o) (ha : Adds w w' v v') (hne : v.ownBlock ≠ some g) : w'.heap[g]? = some o :=
  (ha.upd.block g (Array.getElem?_eq_some_iff.1 h).1 (fun e => hne e)).trans h
theorem run_setRow {w : World} {g : Nat} {old cs : Array Value} {t : TypeId} (hg : w.heap[g]? = some (.cells old t)) : Upd (fun k => k = g) w (w.setRow g cs) ∧ (w.setRow g cs).heap[g]? = some (.cells cs t) := by
  refine ⟨⟨rfl, rfl, rfl, ?_, ?_⟩, setRow_heap w g old cs t (0, 0) hg⟩
  · unfold World.setRow
    simp
  · intro k _ hn
    unfold World.setRow
    simp only [Array.getElem?_modify]
    rw [if_neg (fun e => hn e.symm)]
/-- what holds between the steps -/
def OS (w : World) (m : Ins) (l : Value) (w' : World) : Prop := New w w' ∧ BoxR w' w.heap.size m l ∧ w.heap.size + 2 ≤ w'.heap.size
theorem OS.new {w : World} {m : Ins} {l : Value} {a b : World} (h : OS w m l a) (k : New a b) : OS w m l b := ⟨New.trans h.1 k, hp1 h.2.1 k, Nat.le_trans h.2.2 k.size⟩
/-- v lies behind the two first blocks -/
def F2 (w : World) (v : Value) : Prop := ∀ k, v.ownBlock = some k → w.heap.size + 2 ≤ k
theorem F2.fresh {w : World} {v : Value} (h : F2 w v) : Fresh w v := fun k hk => by have := h k hk; omega
theorem F2.of {w : World} {m : Ins} {l v : Value} {a : World} (h : OS w m l a) (k : Fresh a v) : F2 w v := fun i hi => Nat.le_trans h.2.2 (k i hi)
theorem F2.adds {w a b : World} {m : Ins} {l v v' : Value} (h : F2 w v) (hs : OS w m l a) (ha : Adds a b v v') : F2 w v' := by
  intro k hk
  rcases ha.at' with e | ⟨j, e, hj⟩
  · exact h k (by rw [← e]; exact hk)
  · rw [e] at hk; cases hk; exact Nat.le_trans hs.2.2 hj
theorem OS.adds {w a b : World} {m : Ins} {l v v' : Value} (h : OS w m l a) (hf : F2 w v) (ha : Adds a b v v') : OS w m l b :=
  ⟨Upd.newAdds h.1 hf.fresh ha, hpB h.2.1 ha (fun e => by have := hf _ e; omega), Nat.le_trans h.2.2 ha.upd.size⟩
theorem rowStep {K : Act → World → Prop} {a : Act} {W : World} (h : ∀ W2, New W W2 → NRow W2 (.slice (some ⟨W.heap.size, 0, none⟩) 0 0) [] → W.heap.size < W2.heap.size → K a W2) : K a (W.alloc (.cells #[] 22)) :=
  h _ ((Upd.refl _ _).alloc _) (NRow.made W) (by simp)
theorem step_store_row {P : Program} {ops : Array Oper} {o : Oper} {a : Act} {Q : Exit → Act → World → Prop} {w : World} {K : Act → World → Prop} {E : Prop} (ty : TypeId) (x y : Operand) (hwt : Region.wanted o (yielded ops a.tmps) = true) (ho : o.op = .store ty x y)
    (g : Nat) (cs : Array Value) (hx : a.eval x = .pointer (some ⟨g, 0, none⟩)) (hy : a.eval y = .agg cs)
    (t : TypeId) (old : Array Value) (hg : w.heap[g]? = some (.cells old t (0, 0))) (hi : (P.info? ty).map (·.size) = some cs.size)
    (hold : old.size = cs.size) (h1 : cs.all (·.oneCell') = true)
    (h : K (a.put o.dst undef) (w.setRow g cs)) : if Region.wanted o (yielded ops a.tmps) = true then Oper.wp P o a w K Q else E := by
  rw [if_pos hwt]
  exact wp_store_row ty x y ho g cs hx hy t old hg hi hold h1 h
theorem cells_one (m : Ins) (a a' : Option Addr) (n n' c c' : Nat) : (cells m (.slice a n c) (.slice a' n' c')).all (·.oneCell') = true := by
  unfold cells
  simp [Value.oneCell']
theorem OS.set {w a b : World} {m : Ins} {l : Value} (h : OS w m l a) (hu : Upd (fun k => k = w.heap.size + 1) a b) : OS w m l b :=
  ⟨Upd.trans h.1 hu (fun i hi e => absurd hi (by omega)), (hu.block w.heap.size (by have := h.2.2; omega) (by omega)).trans h.2.1, Nat.le_trans h.2.2 hu.size⟩
theorem infoI : (Try.prog.info? 34).map (·.size) = some 12 := by kernel_rfl

theorem own_any (m : Ins) (l : Value) (w : World) (h1 : RdM .u32 w l m.li) (s1 : m.li.length ≤ 1000) (s3 : m.ty.size ≤ 1000) :
    Calls Try.prog 6 #[rI m l] w (OwnP m w) := by
  have HVA := hid (fun w => lawVals_any m.ty w (by omega))
  have HL := hid h1
  obtain ⟨al, cl, rfl⟩ := h1.shape
  clear h1
  obtain ⟨p, c, k, t, i, x, y, li, n, raw, lane, ty⟩ := m
  unfold rI
  simp only at *
  obtain ⟨M, hM⟩ : ∃ M : Ins, M = ⟨p, c, k, t, i, x, y, li, n, raw, lane, ty⟩ := ⟨_, rfl⟩
  have HM := hid hM
  obtain ⟨w0, hw0⟩ : ∃ w0, (w.alloc (.cells (cellsR ⟨p, c, k, t, i, x, y, li, n, raw, lane, ty⟩ (.slice al li.length cl)) 25)).alloc (.cells (cells (zeroI 0 0) (.slice none 0 0) (.slice none 0 0)) 34) = w0 := ⟨_, rfl⟩
  have HS0 : Hid (OS w M (.slice al li.length cl) w0) := by
    show OS _ _ _ _
    rw [← hw0, hM]
    exact ⟨((Upd.refl _ _).alloc _).alloc _, hp_old (by simp) (hp_new rfl), by simp⟩
  have HZ0 : Hid (Box w0 (w.heap.size + 1) (zeroI 0 0) (.slice none 0 0) (.slice none 0 0)) := by show Box _ _ _ _ _; rw [← hw0]; exact hp_new (by simp)
  clear hM
  unfold cellsR cells zeroI at hw0
  simp only at hw0
  have HW := hid hw0
  clear hw0
  go_enter Try.func6, Try.ntmps6
  go_wp2_with fail
  rw [HW.out]
  have hn : OS w M (.slice al li.length cl) w0.drew := HS0.out.new (Upd.refl _ _).drew
  have hz : Box w0.drew (w.heap.size + 1) (zeroI 0 0) (.slice none 0 0) (.slice none 0 0) := HZ0.out
  have HC : Hid (∀ w', OS w M (.slice al li.length cl) w' → ∀ (j : Nat) v, (cellsR ⟨p, c, k, t, i, x, y, li, n, raw, lane, ty⟩ (.slice al li.length cl))[j]? = some v → w'.cell? ⟨w.heap.size, j, none⟩ = some v) := by
    show ∀ w', _
    intro w' h j v hv
    have := h.2.1
    rw [HM.out] at this
    exact cellAt this j hv
  clear HS0 HZ0 HW
  refine wp_region_noPanic ?_
  refine wp_region_held_drew (S := (OS w M (.slice al li.length cl))) (by kernel_rfl) (by first | exact hn | exact (Upd.refl _ _).drew | exact Upd.drew (by assumption)) (fun hn => ?_)
  generalize w0.drew = wd at *
  refine wpAnyH_take (i := 0) (oi := { dst := some 3, op := Op.fieldAddr 25 (Operand.tmp 1) 0, type := 0, pos := "law.go:19", after := #[], guard := none }) (v := ?v48x1) rfl (by kernel_rfl) (by kernel_rfl) (by kernel_rfl) (fun _ _ _ h => h) (Or.inl ⟨by rfl, ?y48x1⟩) hn ?r48x1
  case y48x1 => (intro wS hS; (try go_simp); (try with_reducible rfl))
  try simp only [Act.put, List.setIfInBounds_toArray, List.set_cons_zero, List.set_cons_succ]
  refine wpAnyH_take (i := 1) (oi := { dst := some 4, op := Op.load 5 (Operand.tmp 3), type := 5, pos := "law.go:19", after := #[{ on := 0, ground := Ground.data }], guard := none }) (v := ?v48x2) rfl (by kernel_rfl) (by kernel_rfl) (by kernel_rfl) (fun _ _ _ h => h) (Or.inl ⟨by rfl, ?y48x2⟩) hn ?r48x2
  case y48x2 => (intro wS hS; have c0 : wS.cell? ⟨w.heap.size, 0, none⟩ = some (.int .u8 p) := HC.out _ hS 0 _ rfl; (try go_simp); (try with_reducible rfl))
  try simp only [Act.put, List.setIfInBounds_toArray, List.set_cons_zero, List.set_cons_succ]
  refine wpAnyH_take (i := 2) (oi := { dst := some 5, op := Op.fieldAddr 25 (Operand.tmp 1) 1, type := 0, pos := "law.go:19", after := #[], guard := none }) (v := ?v48x3) rfl (by kernel_rfl) (by kernel_rfl) (by kernel_rfl) (fun _ _ _ h => h) (Or.inl ⟨by rfl, ?y48x3⟩) hn ?r48x3
  case y48x3 => (intro wS hS; (try go_simp); (try with_reducible rfl))
  try simp only [Act.put, List.setIfInBounds_toArray, List.set_cons_zero, List.set_cons_succ]
  refine wpAnyH_take (i := 3) (oi := { dst := some 6, op := Op.load 22 (Operand.tmp 5), type := 22, pos := "law.go:19", after := #[{ on := 2, ground := Ground.data }], guard := none }) (v := ?v48x4) rfl (by kernel_rfl) (by kernel_rfl) (by kernel_rfl) (fun _ _ _ h => h) (Or.inl ⟨by rfl, ?y48x4⟩) hn ?r48x4
  case y48x4 => (intro wS hS; have c0 : wS.cell? ⟨w.heap.size, 1, none⟩ = some (.int .u32 c) := HC.out _ hS 1 _ rfl; (try go_simp); (try with_reducible rfl))
  try simp only [Act.put, List.setIfInBounds_toArray, List.set_cons_zero, List.set_cons_succ]
  refine wpAnyH_take (i := 4) (oi := { dst := some 7, op := Op.build 28 #[(0, Operand.tmp 4), (1, Operand.tmp 6)], type := 28, pos := "law.go:19", after := #[{ on := 1, ground := Ground.data }, { on := 3, ground := Ground.data }], guard := none }) (v := ?v48x5) rfl (by kernel_rfl) (by kernel_rfl) (by kernel_rfl) (fun _ _ _ h => h) (Or.inl ⟨by rfl, ?y48x5⟩) hn ?r48x5
  case y48x5 => (intro wS hS; (try go_simp); (try with_reducible rfl))
  try simp only [Act.put, List.setIfInBounds_toArray, List.set_cons_zero, List.set_cons_succ]
  refine wpAnyH_take (i := 5) (oi := { dst := some 8, op := Op.fieldAddr 25 (Operand.tmp 1) 2, type := 0, pos := "law.go:19", after := #[], guard := none }) (v := ?v48x6) rfl (by kernel_rfl) (by kernel_rfl) (by kernel_rfl) (fun _ _ _ h => h) (Or.inl ⟨by rfl, ?y48x6⟩) hn ?r48x6
  case y48x6 => (intro wS hS; (try go_simp); (try with_reducible rfl))
  try simp only [Act.put, List.setIfInBounds_toArray, List.set_cons_zero, List.set_cons_succ]
  refine wpAnyH_take (i := 6) (oi := { dst := some 9, op := Op.load 3 (Operand.tmp 8), type := 3, pos := "law.go:19", after := #[{ on := 5, ground := Ground.data }], guard := none }) (v := ?v48x7) rfl (by kernel_rfl) (by kernel_rfl) (by kernel_rfl) (fun _ _ _ h => h) (Or.inl ⟨by rfl, ?y48x7⟩) hn ?r48x7
  case y48x7 => (intro wS hS; have c0 : wS.cell? ⟨w.heap.size, 2, none⟩ = some (.int .i64 k) := HC.out _ hS 2 _ rfl; (try go_simp); (try with_reducible rfl))
  try simp only [Act.put, List.setIfInBounds_toArray, List.set_cons_zero, List.set_cons_succ]
  refine wpAnyH_take (i := 7) (oi := { dst := some 10, op := Op.fieldAddr 25 (Operand.tmp 1) 3, type := 0, pos := "law.go:19", after := #[], guard := none }) (v := ?v48x8) rfl (by kernel_rfl) (by kernel_rfl) (by kernel_rfl) (fun _ _ _ h => h) (Or.inl ⟨by rfl, ?y48x8⟩) hn ?r48x8
  case y48x8 => (intro wS hS; (try go_simp); (try with_reducible rfl))
  try simp only [Act.put, List.setIfInBounds_toArray, List.set_cons_zero, List.set_cons_succ]
  refine wpAnyH_take (i := 8) (oi := { dst := some 11, op := Op.load 5 (Operand.tmp 10), type := 5, pos := "law.go:19", after := #[{ on := 7, ground := Ground.data }], guard := none }) (v := ?v48x9) rfl (by kernel_rfl) (by kernel_rfl) (by kernel_rfl) (fun _ _ _ h => h) (Or.inl ⟨by rfl, ?y48x9⟩) hn ?r48x9
  case y48x9 => (intro wS hS; have c0 : wS.cell? ⟨w.heap.size, 3, none⟩ = some (.int .u8 t) := HC.out _ hS 3 _ rfl; (try go_simp); (try with_reducible rfl))
  try simp only [Act.put, List.setIfInBounds_toArray, List.set_cons_zero, List.set_cons_succ]
  refine wpAnyH_take (i := 9) (oi := { dst := some 12, op := Op.fieldAddr 25 (Operand.tmp 1) 4, type := 0, pos := "law.go:19", after := #[], guard := none }) (v := ?v48x10) rfl (by kernel_rfl) (by kernel_rfl) (by kernel_rfl) (fun _ _ _ h => h) (Or.inl ⟨by rfl, ?y48x10⟩) hn ?r48x10
  case y48x10 => (intro wS hS; (try go_simp); (try with_reducible rfl))
  try simp only [Act.put, List.setIfInBounds_toArray, List.set_cons_zero, List.set_cons_succ]
  refine wpAnyH_take (i := 10) (oi := { dst := some 13, op := Op.load 22 (Operand.tmp 12), type := 22, pos := "law.go:19", after := #[{ on := 9, ground := Ground.data }], guard := none }) (v := ?v48x11) rfl (by kernel_rfl) (by kernel_rfl) (by kernel_rfl) (fun _ _ _ h => h) (Or.inl ⟨by rfl, ?y48x11⟩) hn ?r48x11
  case y48x11 => (intro wS hS; have c0 : wS.cell? ⟨w.heap.size, 4, none⟩ = some (.int .u32 i) := HC.out _ hS 4 _ rfl; (try go_simp); (try with_reducible rfl))
  try simp only [Act.put, List.setIfInBounds_toArray, List.set_cons_zero, List.set_cons_succ]
  refine wpAnyH_take (i := 11) (oi := { dst := some 14, op := Op.build 31 #[(0, Operand.tmp 9), (1, Operand.tmp 11), (2, Operand.tmp 13)], type := 31, pos := "law.go:19", after := #[{ on := 6, ground := Ground.data }, { on := 8, ground := Ground.data }, { on := 10, ground := Ground.data }], guard := none }) (v := ?v48x12) rfl (by kernel_rfl) (by kernel_rfl) (by kernel_rfl) (fun _ _ _ h => h) (Or.inl ⟨by rfl, ?y48x12⟩) hn ?r48x12
  case y48x12 => (intro wS hS; (try go_simp); (try with_reducible rfl))
  try simp only [Act.put, List.setIfInBounds_toArray, List.set_cons_zero, List.set_cons_succ]
  refine wpAnyH_take (i := 12) (oi := { dst := some 15, op := Op.fieldAddr 25 (Operand.tmp 1) 5, type := 0, pos := "law.go:19", after := #[], guard := none }) (v := ?v48x13) rfl (by kernel_rfl) (by kernel_rfl) (by kernel_rfl) (fun _ _ _ h => h) (Or.inl ⟨by rfl, ?y48x13⟩) hn ?r48x13
  case y48x13 => (intro wS hS; (try go_simp); (try with_reducible rfl))
  try simp only [Act.put, List.setIfInBounds_toArray, List.set_cons_zero, List.set_cons_succ]
  refine wpAnyH_take (i := 13) (oi := { dst := some 16, op := Op.load 22 (Operand.tmp 15), type := 22, pos := "law.go:19", after := #[{ on := 12, ground := Ground.data }], guard := none }) (v := ?v48x14) rfl (by kernel_rfl) (by kernel_rfl) (by kernel_rfl) (fun _ _ _ h => h) (Or.inl ⟨by rfl, ?y48x14⟩) hn ?r48x14
  case y48x14 => (intro wS hS; have c0 : wS.cell? ⟨w.heap.size, 5, none⟩ = some (.int .u32 x) := HC.out _ hS 5 _ rfl; (try go_simp); (try with_reducible rfl))
  try simp only [Act.put, List.setIfInBounds_toArray, List.set_cons_zero, List.set_cons_succ]
  refine wpAnyH_take (i := 14) (oi := { dst := some 17, op := Op.fieldAddr 25 (Operand.tmp 1) 6, type := 0, pos := "law.go:19", after := #[], guard := none }) (v := ?v48x15) rfl (by kernel_rfl) (by kernel_rfl) (by kernel_rfl) (fun _ _ _ h => h) (Or.inl ⟨by rfl, ?y48x15⟩) hn ?r48x15
  case y48x15 => (intro wS hS; (try go_simp); (try with_reducible rfl))
  try simp only [Act.put, List.setIfInBounds_toArray, List.set_cons_zero, List.set_cons_succ]
  refine wpAnyH_take (i := 15) (oi := { dst := some 18, op := Op.load 22 (Operand.tmp 17), type := 22, pos := "law.go:19", after := #[{ on := 14, ground := Ground.data }], guard := none }) (v := ?v48x16) rfl (by kernel_rfl) (by kernel_rfl) (by kernel_rfl) (fun _ _ _ h => h) (Or.inl ⟨by rfl, ?y48x16⟩) hn ?r48x16
  case y48x16 => (intro wS hS; have c0 : wS.cell? ⟨w.heap.size, 6, none⟩ = some (.int .u32 y) := HC.out _ hS 6 _ rfl; (try go_simp); (try with_reducible rfl))
  try simp only [Act.put, List.setIfInBounds_toArray, List.set_cons_zero, List.set_cons_succ]
  refine wpAnyH_take (i := 17) (oi := { dst := some 20, op := Op.fieldAddr 25 (Operand.tmp 1) 7, type := 0, pos := "law.go:19", after := #[], guard := none }) (v := ?v48x17) rfl (by kernel_rfl) (by kernel_rfl) (by kernel_rfl) (fun _ _ _ h => h) (Or.inl ⟨by rfl, ?y48x17⟩) hn ?r48x17
  case y48x17 => (intro wS hS; (try go_simp); (try with_reducible rfl))
  try simp only [Act.put, List.setIfInBounds_toArray, List.set_cons_zero, List.set_cons_succ]
  refine wpAnyH_take (i := 18) (oi := { dst := some 21, op := Op.load 23 (Operand.tmp 20), type := 23, pos := "law.go:19", after := #[{ on := 17, ground := Ground.data }], guard := none }) (v := ?v48x18) rfl (by kernel_rfl) (by kernel_rfl) (by kernel_rfl) (fun _ _ _ h => h) (Or.inl ⟨by rfl, ?y48x18⟩) hn ?r48x18
  case y48x18 => (intro wS hS; have c0 : wS.cell? ⟨w.heap.size, 7, none⟩ = some (.slice al li.length cl) := HC.out _ hS 7 _ rfl; (try go_simp); (try with_reducible rfl))
  try simp only [Act.put, List.setIfInBounds_toArray, List.set_cons_zero, List.set_cons_succ]
  refine wpAnyH_take (i := 20) (oi := { dst := some 23, op := Op.fieldAddr 25 (Operand.tmp 1) 8, type := 0, pos := "law.go:19", after := #[], guard := none }) (v := ?v48x19) rfl (by kernel_rfl) (by kernel_rfl) (by kernel_rfl) (fun _ _ _ h => h) (Or.inl ⟨by rfl, ?y48x19⟩) hn ?r48x19
  case y48x19 => (intro wS hS; (try go_simp); (try with_reducible rfl))
  try simp only [Act.put, List.setIfInBounds_toArray, List.set_cons_zero, List.set_cons_succ]
  refine wpAnyH_take (i := 21) (oi := { dst := some 24, op := Op.load 2 (Operand.tmp 23), type := 2, pos := "law.go:19", after := #[{ on := 20, ground := Ground.data }], guard := none }) (v := ?v48x20) rfl (by kernel_rfl) (by kernel_rfl) (by kernel_rfl) (fun _ _ _ h => h) (Or.inl ⟨by rfl, ?y48x20⟩) hn ?r48x20
  case y48x20 => (intro wS hS; have c0 : wS.cell? ⟨w.heap.size, 8, none⟩ = some (.int .i64 n) := HC.out _ hS 8 _ rfl; (try go_simp); (try with_reducible rfl))
  try simp only [Act.put, List.setIfInBounds_toArray, List.set_cons_zero, List.set_cons_succ]
  refine wpAnyH_take (i := 22) (oi := { dst := some 25, op := Op.fieldAddr 25 (Operand.tmp 1) 9, type := 0, pos := "law.go:19", after := #[], guard := none }) (v := ?v48x21) rfl (by kernel_rfl) (by kernel_rfl) (by kernel_rfl) (fun _ _ _ h => h) (Or.inl ⟨by rfl, ?y48x21⟩) hn ?r48x21
  case y48x21 => (intro wS hS; (try go_simp); (try with_reducible rfl))
  try simp only [Act.put, List.setIfInBounds_toArray, List.set_cons_zero, List.set_cons_succ]
  refine wpAnyH_take (i := 23) (oi := { dst := some 26, op := Op.load 9 (Operand.tmp 25), type := 9, pos := "law.go:19", after := #[{ on := 22, ground := Ground.data }], guard := none }) (v := ?v48x22) rfl (by kernel_rfl) (by kernel_rfl) (by kernel_rfl) (fun _ _ _ h => h) (Or.inl ⟨by rfl, ?y48x22⟩) hn ?r48x22
  case y48x22 => (intro wS hS; have c0 : wS.cell? ⟨w.heap.size, 9, none⟩ = some (.string raw) := HC.out _ hS 9 _ rfl; (try go_simp); (try with_reducible rfl))
  try simp only [Act.put, List.setIfInBounds_toArray, List.set_cons_zero, List.set_cons_succ]
  refine wpAnyH_take (i := 24) (oi := { dst := some 27, op := Op.fieldAddr 25 (Operand.tmp 1) 10, type := 0, pos := "law.go:19", after := #[], guard := none }) (v := ?v48x23) rfl (by kernel_rfl) (by kernel_rfl) (by kernel_rfl) (fun _ _ _ h => h) (Or.inl ⟨by rfl, ?y48x23⟩) hn ?r48x23
  case y48x23 => (intro wS hS; (try go_simp); (try with_reducible rfl))
  try simp only [Act.put, List.setIfInBounds_toArray, List.set_cons_zero, List.set_cons_succ]
  refine wpAnyH_take (i := 25) (oi := { dst := some 28, op := Op.load 5 (Operand.tmp 27), type := 5, pos := "law.go:19", after := #[{ on := 24, ground := Ground.data }], guard := none }) (v := ?v48x24) rfl (by kernel_rfl) (by kernel_rfl) (by kernel_rfl) (fun _ _ _ h => h) (Or.inl ⟨by rfl, ?y48x24⟩) hn ?r48x24
  case y48x24 => (intro wS hS; have c0 : wS.cell? ⟨w.heap.size, 10, none⟩ = some (.int .u8 lane) := HC.out _ hS 10 _ rfl; (try go_simp); (try with_reducible rfl))
  try simp only [Act.put, List.setIfInBounds_toArray, List.set_cons_zero, List.set_cons_succ]
  refine wpAnyH_take (i := 26) (oi := { dst := some 29, op := Op.fieldAddr 25 (Operand.tmp 1) 11, type := 0, pos := "law.go:19", after := #[], guard := none }) (v := ?v48x25) rfl (by kernel_rfl) (by kernel_rfl) (by kernel_rfl) (fun _ _ _ h => h) (Or.inl ⟨by rfl, ?y48x25⟩) hn ?r48x25
  case y48x25 => (intro wS hS; (try go_simp); (try with_reducible rfl))
  try simp only [Act.put, List.setIfInBounds_toArray, List.set_cons_zero, List.set_cons_succ]
  refine wpAnyH_take (i := 27) (oi := { dst := some 30, op := Op.load 9 (Operand.tmp 29), type := 9, pos := "law.go:19", after := #[{ on := 26, ground := Ground.data }], guard := none }) (v := ?v48x26) rfl (by kernel_rfl) (by kernel_rfl) (by kernel_rfl) (fun _ _ _ h => h) (Or.inl ⟨by rfl, ?y48x26⟩) hn ?r48x26
  case y48x26 => (intro wS hS; have c0 : wS.cell? ⟨w.heap.size, 11, none⟩ = some (.string ty) := HC.out _ hS 11 _ rfl; (try go_simp); (try with_reducible rfl))
  try simp only [Act.put, List.setIfInBounds_toArray, List.set_cons_zero, List.set_cons_succ]
  refine wpAnyH_ready (rs := [16]) (by kernel_rfl) (by simp) ?_
  refine AllReadyH.cons (o := { dst := some 19, op := Op.buildSlice 23 0 #[], type := 23, pos := "law.go:19", after := #[], guard := none }) rfl (fun K hK => ?_) AllReadyH.nil
  go_simp
  refine rowStep ?_
  intro wr hnr hrow hlt
  have hfs : F2 w (.slice (some ⟨wd.heap.size, 0, none⟩) 0 0) := fun k hk => by cases hk; exact hn.2.2
  have hz := hp1 hz hnr
  have hn := hn.new hnr
  refine hK.out _ _ (by first | exact hn | exact Upd.alloc hn _) (fun hn => ?_)
  clear hK K
  try simp only [Act.put, List.setIfInBounds_toArray, List.set_cons_zero, List.set_cons_succ]
  refine wpAnyH_ready (rs := [19]) (by kernel_rfl) (by simp) ?_
  refine AllReadyH.cons (o := { dst := some 22, op := Op.call { callee := Callee.builtin Builtin.append, args := #[Operand.tmp 19, Operand.tmp 21], argTypes := #[23, 23] }, type := 23, pos := "law.go:19", after := #[{ on := 16, ground := Ground.data }, { on := 18, ground := Ground.data }], guard := none }) rfl (fun K hK => ?_) AllReadyH.nil
  refine stepN _ _ hrow (HL.out.new hn.1) (by simp only [List.length_nil]; omega) rfl rfl rfl rfl ?_
  intro vr ws hro har
  rw [List.nil_append] at hro
  obtain ⟨ar, cr, rfl⟩ := hro.rd.shape
  have hz := hpB hz har (fun e => by have := hfs _ e; omega)
  have hfr := hfs.adds hn har
  have hn := hn.adds hfs har
  refine hK.out _ _ (by first | exact hn | exact Upd.alloc hn _) (fun hn => ?_)
  clear hK K
  try simp only [Act.put, List.setIfInBounds_toArray, List.set_cons_zero, List.set_cons_succ]
  refine wpAnyH_ready (rs := [28]) (by kernel_rfl) (by simp) ?_
  refine AllReadyH.cons (o := { dst := some 31, op := Op.call { callee := Callee.value (Operand.func 23), args := #[Operand.tmp 30], argTypes := #[9] }, type := 32, pos := "law.go:19", after := #[{ on := 27, ground := Ground.data }, { on := 19, ground := Ground.chain }], guard := none }) rfl (fun K hK => ?_) AllReadyH.nil
  go_simp
  refine (HVA.out _).mono ?_
  rintro e wq ⟨vq, rfl, hvs, hnq, hvf, hvl⟩
  obtain ⟨aq, cq, rfl⟩ := hvs.shape
  go_wp2_with fail
  have hvf := F2.of hn hvf
  have hz := hp1 hz hnq
  have hn := hn.new hnq
  have hro := hro.new hnq
  refine hK.out _ _ (by first | exact hn | exact Upd.alloc hn _) (fun hn => ?_)
  clear hK K
  try simp only [Act.put, List.setIfInBounds_toArray, List.set_cons_zero, List.set_cons_succ]
  refine wpAnyH_take (i := 29) (oi := { dst := some 32, op := Op.build 34 #[(0, Operand.tmp 7), (1, Operand.tmp 14), (2, Operand.tmp 16), (3, Operand.tmp 18), (4, Operand.tmp 22), (5, Operand.tmp 24), (6, Operand.tmp 26), (7, Operand.tmp 28), (8, Operand.tmp 31)], type := 34, pos := "law.go:19", after := #[{ on := 4, ground := Ground.data }, { on := 11, ground := Ground.data }, { on := 13, ground := Ground.data }, { on := 15, ground := Ground.data }, { on := 19, ground := Ground.data }, { on := 21, ground := Ground.data }, { on := 23, ground := Ground.data }, { on := 25, ground := Ground.data }, { on := 28, ground := Ground.data }], guard := none }) (v := ?v48x27) rfl (by kernel_rfl) (by kernel_rfl) (by kernel_rfl) (fun _ _ _ h => h) (Or.inl ⟨by rfl, ?y48x27⟩) hn ?r48x27
  case y48x27 => (intro wS hS; (try go_simp); (try with_reducible rfl))
  try simp only [Act.put, List.setIfInBounds_toArray, List.set_cons_zero, List.set_cons_succ]
  refine wpAnyH_ready (rs := [30]) (by kernel_rfl) (by simp) ?_
  refine AllReadyH.cons (o := { dst := none, op := Op.store 34 (Operand.tmp 2) (Operand.tmp 32), type := 0, pos := "law.go:19", after := #[{ on := 29, ground := Ground.data }, { on := 28, ground := Ground.chain }, { on := 0, ground := Ground.phase }, { on := 1, ground := Ground.phase }, { on := 2, ground := Ground.phase }, { on := 3, ground := Ground.phase }, { on := 4, ground := Ground.phase }, { on := 5, ground := Ground.phase }, { on := 6, ground := Ground.phase }, { on := 7, ground := Ground.phase }, { on := 8, ground := Ground.phase }, { on := 9, ground := Ground.phase }, { on := 10, ground := Ground.phase }, { on := 11, ground := Ground.phase }, { on := 12, ground := Ground.phase }, { on := 13, ground := Ground.phase }, { on := 14, ground := Ground.phase }, { on := 15, ground := Ground.phase }, { on := 16, ground := Ground.phase }, { on := 17, ground := Ground.phase }, { on := 18, ground := Ground.phase }, { on := 19, ground := Ground.phase }, { on := 20, ground := Ground.phase }, { on := 21, ground := Ground.phase }, { on := 22, ground := Ground.phase }, { on := 23, ground := Ground.phase }, { on := 24, ground := Ground.phase }, { on := 25, ground := Ground.phase }, { on := 26, ground := Ground.phase }, { on := 27, ground := Ground.phase }, { on := 28, ground := Ground.phase }, { on := 29, ground := Ground.phase }], guard := none }) rfl (fun K hK => ?_) AllReadyH.nil
  refine step_store_row 34 _ _ rfl rfl (w.heap.size + 1) (cells ⟨p, c, k, t, i, x, y, li, n, raw, lane, ty⟩ (.slice ar li.length cr) (.slice aq (lb ty).length cq)) rfl rfl 34 _ hz infoI rfl (cells_one _ _ _ _ _ _ _) ?_
  obtain ⟨hus, hbs⟩ := run_setRow (cs := cells ⟨p, c, k, t, i, x, y, li, n, raw, lane, ty⟩ (.slice ar li.length cr) (.slice aq (lb ty).length cq)) hz
  have hn := hn.set hus
  have hro := ownsRow_upd hro hus (fun k hk e => by have := hfr k hk; omega)
  have hvs := hvs.upd hus (fun k hk e => by have := hvf k hk; omega)
  have hvl := fun k h => Nat.lt_of_lt_of_le (hvl k h) hus.size
  clear hus
  refine hK.out _ _ (by first | exact hn | exact Upd.alloc hn _) (fun hn => ?_)
  clear hK K
  try simp only [Act.put, List.setIfInBounds_toArray, List.set_cons_zero, List.set_cons_succ]
  refine wpAnyH_done (by kernel_rfl) ?_ _
  refine NoPanic.normal ?_
  go_wp2_with fail
  refine ret_agg rfl Try.underlying34 rfl (w.heap.size + 1) (cells ⟨p, c, k, t, i, x, y, li, n, raw, lane, ty⟩ (.slice ar li.length cr) (.slice aq (lb ty).length cq)) 34 infoI rfl rfl hbs ⟨_, _, rfl, NRow.rd hro, hvs, hn.1, hfr.fresh, hvf.fresh, NRow.lt hro, hvl⟩
end Go.Proofs.Ytnngibflnnmioaa
