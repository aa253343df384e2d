/-
  Whether an instruction may be: the program's Right.
-/
import Derived.Test.YtbllpajibhiobaaDoorJ3
namespace Go.Proofs.YtbllpajibhiobaaDoor
open Go.RowKit Go.Proofs.Leb Go.Proofs.Own
set_option maxRecDepth 100000
set_option maxHeartbeats 8000000

/-- an instruction without what its op has -/
def zap (s : Int) (m : Ins) : Ins where
  p := m.p
  c := m.c
  k := if s = 1 then 0 else m.k
  t := if s = 1 then 0 else m.t
  i := if s = 1 then 0 else m.i
  x := if s = 2 ∨ s = 3 ∨ s = 4 ∨ s = 5 ∨ s = 8 ∨ s = 16 then 0 else m.x
  y := if s = 3 ∨ s = 5 ∨ s = 16 then 0 else m.y
  li := if s = 4 then [] else m.li
  n := if s = 9 ∨ s = 10 then 0 else m.n
  raw := if s = 11 ∨ s = 12 ∨ s = 13 ∨ s = 14 then ⟨#[]⟩ else m.raw
  lane := if s = 15 ∨ s = 16 then 0 else m.lane
  ty := if s = 17 ∨ s = 18 then ⟨#[]⟩ else m.ty
def zeroI (p c : Int) : Ins := ⟨p, c, 0, 0, 0, 0, 0, [], 0, ⟨#[]⟩, 0, ⟨#[]⟩⟩
def ref1 (l : List UInt8) : Bool := match l with | [x] => refV x.toNat | _ => false
def small (l : List UInt8) : Bool := l.all fun x => decide ((x.toNat : Int) < 32)
/-- what is asked of what its op has -/
def ownQ (s ln : Int) (m : Ins) : Prop :=
  (s = 1 → btV m.k m.t m.i = true) ∧ (s = 9 → -2147483648 ≤ m.n ∧ m.n ≤ 2147483647) ∧ (s = 11 → m.raw.size = 4) ∧ (s = 12 → m.raw.size = 8) ∧ (s = 13 ∨ s = 14 → m.raw.size = 16) ∧
  (s = 14 → small (lb m.raw) = true) ∧ (s = 15 ∨ s = 16 → m.lane < ln) ∧ (s = 17 → ref1 (lb m.ty) = true) ∧ (s = 18 → valsV (lb m.ty) = true)
def RightQ (m : Ins) : Prop := 0 ≤ (shapeV m.p m.c).1 ∧ ownQ (shapeV m.p m.c).1 (shapeV m.p m.c).2 m ∧ zap (shapeV m.p m.c).1 m = zeroI m.p m.c

/-- the instruction's block -/
def cells (m : Ins) (l u : Value) : Array Value := #[.int .u8 m.p, .int .u32 m.c, .int .i64 m.k, .int .u8 m.t, .int .u32 m.i, .int .u32 m.x, .int .u32 m.y, l, .int .i64 m.n, .string m.raw, .int .u8 m.lane, u]
def Box (w : World) (g : Nat) (m : Ins) (l u : Value) : Prop := w.heap[g]? = some (.cells (cells m l u) 93)
theorem hp_set {w : World} {g : Nat} {cs : Array Value} {t : TypeId} (h : w.heap[g]? = some (.cells cs t)) (i : Nat) (v : Value) : (w.setCell ⟨g, i, none⟩ v).heap[g]? = some (.cells (cs.setIfInBounds i v) t) := by
  show (w.heap.modify g _)[g]? = _
  rw [Array.getElem?_modify, if_pos rfl, h]
  rfl

theorem hp_other {w : World} {g k i : Nat} {o : Obj} {v : Value} (h : w.heap[k]? = some o) (hne : g ≠ k) : (w.setCell ⟨g, i, none⟩ v).heap[k]? = some o := by
  show (w.heap.modify g _)[k]? = _
  rw [Array.getElem?_modify, if_neg hne]
  exact h
theorem has_eq {k : Int} {n : Nat} (h : Span.has k k n = true) (hk : k < 1099511627776 := by decide) : (n : Int) = k := by
  unfold Span.has at h
  simp at h
  omega
theorem has_ne {k n : Nat} (h : Span.has k k n = false) : ¬ n = k := by
  intro e
  subst e
  unfold Span.has at h
  simp at h
theorem setNew {w wb : World} (h : New w wb) (i : Nat) (v : Value) : New w (wb.setCell ⟨w.heap.size, i, none⟩ v) := Upd.setCell h (.inl (Nat.le_refl _)) v
theorem frozenAt {w : World} {g : Nat} {cs : Array Value} {t : TypeId} (h : w.heap[g]? = some (.cells cs t)) (i : Nat) : w.frozen? ⟨g, i, none⟩ = false := by simp [World.frozen?, h]
theorem len_pos_at {bs : List UInt8} (h : bs.length = 1) : ∃ x, bs = [x] := List.length_eq_one_iff.mp h
theorem own_plain {s ln : Int} {m : Ins} (h : s ≠ 1 ∧ s ≠ 2 ∧ s ≠ 3 ∧ s ≠ 4 ∧ s ≠ 5 ∧ s ≠ 8 ∧ s ≠ 9 ∧ s ≠ 10 ∧ s ≠ 11 ∧ s ≠ 12 ∧ s ≠ 13 ∧ s ≠ 14 ∧ s ≠ 15 ∧ s ≠ 16 ∧ s ≠ 17 ∧ s ≠ 18) : ownQ s ln m := by
  obtain ⟨h1, h2, h3, h4, h5, h8, h9, h10, h11, h12, h13, h14, h15, h16, h17, h18⟩ := h
  unfold ownQ
  simp [h1, h9, h11, h12, h13, h14, h15, h16, h17, h18]
theorem wrap32 (n : Int) : (n = wrap64 (RowKit.wrap32 n)) ↔ (-2147483648 ≤ n ∧ n ≤ 2147483647) := by
  unfold wrap64 RowKit.wrap32
  constructor
  · intro h; omega
  · intro h; omega
theorem ref1_not {l : List UInt8} (h : ¬ l.length = 1) : ref1 l = false := by
  unfold ref1
  match l, h with
  | [], _ => rfl
  | [x], h => exact absurd rfl h
  | x :: y :: r, _ => rfl
theorem shapes (s : Int) : s = 1 ∨ s = 2 ∨ s = 3 ∨ s = 4 ∨ s = 5 ∨ s = 8 ∨ s = 9 ∨ s = 10 ∨ s = 11 ∨ s = 12 ∨ s = 13 ∨ s = 14 ∨ s = 15 ∨ s = 16 ∨ s = 17 ∨ s = 18 ∨
    ((∀ m, zap s m = m) ∧ (s ≠ 1 ∧ s ≠ 2 ∧ s ≠ 3 ∧ s ≠ 4 ∧ s ≠ 5 ∧ s ≠ 8 ∧ s ≠ 9 ∧ s ≠ 10 ∧ s ≠ 11 ∧ s ≠ 12 ∧ s ≠ 13 ∧ s ≠ 14 ∧ s ≠ 15 ∧ s ≠ 16 ∧ s ≠ 17 ∧ s ≠ 18)) := by
  by_cases h : s = 1 ∨ s = 2 ∨ s = 3 ∨ s = 4 ∨ s = 5 ∨ s = 8 ∨ s = 9 ∨ s = 10 ∨ s = 11 ∨ s = 12 ∨ s = 13 ∨ s = 14 ∨ s = 15 ∨ s = 16 ∨ s = 17 ∨ s = 18
  · omega
  · simp only [not_or] at h
    obtain ⟨h1, h2, h3, h4, h5, h8, h9, h10, h11, h12, h13, h14, h15, h16, h17, h18⟩ := h
    have hz : ∀ m, zap s m = m := fun m => by
      unfold zap
      simp [h1, h2, h3, h4, h5, h8, h9, h10, h11, h12, h13, h14, h15, h16, h17, h18]
    simp [h1, h2, h3, h4, h5, h8, h9, h10, h11, h12, h13, h14, h15, h16, h17, h18, hz]
theorem pRight_any (m : Ins) (l u : Value) (w : World) (c0 : 0 ≤ m.c) (c1 : m.c < 4294967296) (h1 : RdM .u32 w l m.li) (h3 : Rd w u (lb m.ty)) (s1 : m.li.length ≤ 1000000) (s3 : m.ty.size ≤ 1000000) (s2 : m.raw.size ≤ 1000000)
    (n1 : -9223372036854775808 ≤ m.n) (n2 : m.n ≤ 9223372036854775807) (l0 : 0 ≤ m.lane) (l1 : m.lane < 256) :
    Calls Tryd.prog 42 #[pI m l u] w (SameP (RightQ m) w) := by
  have HF := hid (fun w => Find_any m.p m.c w c0 c1)
  have HLN : Hid (wrap64 m.lane = m.lane) := by show wrap64 m.lane = m.lane; unfold wrap64; omega
  have HBT := hid (fun w => btRight_any m.k m.t m.i w)
  have HSP := hid (fun s l w => infoSpan_any s l w)
  have HHA := hid (fun mn mx n w => has_any mn mx n w)
  have HSH := hid (fun w => shuffles_any m.raw w (by omega))
  have HVR := hid (fun v w => vref_any v w)
  have HFR := hid (fun w' (hn : New w w') => funcRight_any u (.slice none 0 0) (lb m.ty) [] w' (h3.new hn) (by rw [lb_len]; omega) (Rd.nil _) (by decide))
  have hag := find_shape m.p m.c c0
  obtain ⟨q, hq⟩ : ∃ q, RightQ m = q := ⟨_, rfl⟩
  have HQ := hid hq
  rw [hq]
  clear hq
  have hQ2 : Hid (q = (0 ≤ (shapeV m.p m.c).1 ∧ ownQ (shapeV m.p m.c).1 (shapeV m.p m.c).2 m ∧ zap (shapeV m.p m.c).1 m = zeroI m.p m.c)) := HQ.out.symm
  clear HQ
  generalize findV m.p m.c = f at *
  generalize shapeV m.p m.c = r at *
  obtain ⟨f1, f2, f3⟩ := f
  obtain ⟨s, ln⟩ := r
  simp only at *
  obtain ⟨a1, a2⟩ := hag
  simp only at a1 a2
  have hcases : (f3 = true ∧ 0 ≤ s ∧ s = f1 ∧ ln = f2) ∨ (f3 = false ∧ s < 0 ∧ f1 = 0 ∧ f2 = 0) := by
    cases f3 with
    | true => exact .inl ⟨rfl, of_decide_eq_true a1.symm, (by rw [if_pos rfl] at a2; exact ⟨a2.1.symm, a2.2.symm⟩)⟩
    | false => exact .inr ⟨rfl, Int.not_le.mp (of_decide_eq_false a1.symm), (by rw [if_neg (by decide)] at a2; exact a2)⟩
  clear a1 a2
  obtain ⟨w0, hw0⟩ : ∃ w0, w.alloc (.cells (cells m l u) 93) = w0 := ⟨_, rfl⟩
  have HN0 : Hid (New w w0) := by show New _ _; rw [← hw0]; exact (Upd.refl _ _).alloc _
  have HB0 : Hid (Box w0 w.heap.size m l u) := by show Box _ _ _ _ _; rw [← hw0]; exact hp_new rfl
  unfold cells at hw0
  have HW := hid hw0
  clear hw0
  obtain ⟨p, c, k, t, i, x, y, li, n, raw, lane, ty⟩ := m
  obtain ⟨al, cl, rfl⟩ := h1.shape
  obtain ⟨au, cu, rfl⟩ := h3.shape
  have HL := hid h1
  have HU := hid h3
  clear h1 h3
  unfold pI
  simp only at *
  go_enter Tryd.func42, Tryd.ntmps42
  go_wp2_with fail
  rw [HW.out]
  refine (HF.out _).mono ?_
  rintro e wa ⟨rfl, hna⟩
  have hb := hp1 HB0.out hna
  have hnn := New.trans HN0.out hna
  obtain ⟨wb, hwb⟩ : ∃ wb, wa.alloc (.cells #[.int .i64 f1, .int .i64 f2] 123) = wb := ⟨_, rfl⟩
  have HB : Hid (Box wb w.heap.size ⟨p, c, k, t, i, x, y, li, n, raw, lane, ty⟩ (.slice al li.length cl) (.slice au (lb ty).length cu)) := by
    show _ = _
    rw [← hwb]; exact hp_old (Array.getElem?_eq_some_iff.1 hb).1 hb
  have HN : Hid (New w wb) := by show New _ _; rw [← hwb]; exact hnn.alloc _
  have HI : Hid (wb.heap[wa.heap.size]? = some (.cells #[.int .i64 f1, .int .i64 f2] 123)) := by show _ = _; rw [← hwb]; exact hp_new rfl
  have y0 : wb.cell? ⟨wa.heap.size, 0, none⟩ = some (.int .i64 f1) := cellAt HI.out 0 rfl
  have HNE : Hid (w.heap.size ≠ wa.heap.size) := by show _ ≠ _; have := (Array.getElem?_eq_some_iff.1 hb).1; omega
  clear hb hnn hna HB0 HN0 HF HW
  go_upto_block 0 with fail
  clear hwb y0
  go_cut [4] (fun ok wx => ∃ b l' u', ok = .bool b ∧ (b = true ↔ 0 ≤ s ∧ ownQ s ln ⟨p, c, k, t, i, x, y, li, n, raw, lane, ty⟩) ∧ Box wx w.heap.size (zap s ⟨p, c, k, t, i, x, y, li, n, raw, lane, ty⟩) l' u' ∧ New w wx ∧ RdM .u32 wx l' (zap s ⟨p, c, k, t, i, x, y, li, n, raw, lane, ty⟩).li ∧ Rd wx u' (lb (zap s ⟨p, c, k, t, i, x, y, li, n, raw, lane, ty⟩).ty))
  case first =>
    clear hQ2
    rcases hcases with ⟨rfl, hs, rfl, rfl⟩ | ⟨rfl, hs, rfl, rfl⟩
    · have hk := shapes s
      rcases hk with rfl | rfl | rfl | rfl | rfl | rfl | rfl | rfl | rfl | rfl | rfl | rfl | rfl | rfl | rfl | rfl | ⟨hz, ho⟩
      · -- 1
        have z2 : wb.cell? ⟨w.heap.size, 2, none⟩ = some (.int .i64 k) := cellAt HB.out 2 rfl
        have z3 : wb.cell? ⟨w.heap.size, 3, none⟩ = some (.int .u8 t) := cellAt HB.out 3 rfl
        have z4 : wb.cell? ⟨w.heap.size, 4, none⟩ = some (.int .u32 i) := cellAt HB.out 4 rfl
        have f2 : wb.frozen? ⟨w.heap.size, 2, none⟩ = false := frozenAt HB.out 2
        have f3 : wb.frozen? ⟨w.heap.size, 3, none⟩ = false := frozenAt HB.out 3
        have f4 : wb.frozen? ⟨w.heap.size, 4, none⟩ = false := frozenAt HB.out 4
        go_wp2_with fail
        refine (HBT.out _).mono ?_
        rintro e wd ⟨rfl, hnd⟩
        have HD := hid (New.trans HN.out hnd)
        have HB2 := hid (hp1 HB.out hnd)
        clear z2 z3 z4 f2 f3 f4
        have z2 : wd.cell? ⟨w.heap.size, 2, none⟩ = some (.int .i64 k) := cellAt HB2.out 2 rfl
        have z3 : wd.cell? ⟨w.heap.size, 3, none⟩ = some (.int .u8 t) := cellAt HB2.out 3 rfl
        have z4 : wd.cell? ⟨w.heap.size, 4, none⟩ = some (.int .u32 i) := cellAt HB2.out 4 rfl
        have f2 : wd.frozen? ⟨w.heap.size, 2, none⟩ = false := frozenAt HB2.out 2
        have f3 : wd.frozen? ⟨w.heap.size, 3, none⟩ = false := frozenAt HB2.out 3
        have f4 : wd.frozen? ⟨w.heap.size, 4, none⟩ = false := frozenAt HB2.out 4
        go_wp2_with fail
        go_meet
        have hn := (setNew (setNew (setNew HD.out 2 (.int .i64 0)) 3 (.int .u8 0)) 4 (.int .u32 0))
        exact ⟨_, (.slice al li.length cl), (.slice au (lb ty).length cu), rfl, (by simp [ownQ]), (hp_set (hp_set (hp_set HB2.out 2 (.int .i64 0)) 3 (.int .u8 0)) 4 (.int .u32 0)), hn, (HL.out.new hn), (HU.out.new hn)⟩
      · -- 2
        have z5 : wb.cell? ⟨w.heap.size, 5, none⟩ = some (.int .u32 x) := cellAt HB.out 5 rfl
        have f5 : wb.frozen? ⟨w.heap.size, 5, none⟩ = false := frozenAt HB.out 5
        go_wp2_with fail
        go_meet
        have hn := (setNew HN.out 5 (.int .u32 0))
        exact ⟨_, (.slice al li.length cl), (.slice au (lb ty).length cu), rfl, (by simp [ownQ]), (hp_set HB.out 5 (.int .u32 0)), hn, (HL.out.new hn), (HU.out.new hn)⟩
      · -- 3
        have z5 : wb.cell? ⟨w.heap.size, 5, none⟩ = some (.int .u32 x) := cellAt HB.out 5 rfl
        have z6 : wb.cell? ⟨w.heap.size, 6, none⟩ = some (.int .u32 y) := cellAt HB.out 6 rfl
        have f5 : wb.frozen? ⟨w.heap.size, 5, none⟩ = false := frozenAt HB.out 5
        have f6 : wb.frozen? ⟨w.heap.size, 6, none⟩ = false := frozenAt HB.out 6
        go_wp2_with fail
        go_meet
        have hn := (setNew (setNew HN.out 5 (.int .u32 0)) 6 (.int .u32 0))
        exact ⟨_, (.slice al li.length cl), (.slice au (lb ty).length cu), rfl, (by simp [ownQ]), (hp_set (hp_set HB.out 5 (.int .u32 0)) 6 (.int .u32 0)), hn, (HL.out.new hn), (HU.out.new hn)⟩
      · -- 4
        have z7 : wb.cell? ⟨w.heap.size, 7, none⟩ = some (.slice al li.length cl) := cellAt HB.out 7 rfl
        have z5 : wb.cell? ⟨w.heap.size, 5, none⟩ = some (.int .u32 x) := cellAt HB.out 5 rfl
        have f7 : wb.frozen? ⟨w.heap.size, 7, none⟩ = false := frozenAt HB.out 7
        have f5 : wb.frozen? ⟨w.heap.size, 5, none⟩ = false := frozenAt HB.out 5
        go_wp2_with fail
        go_meet
        have hn := (setNew (setNew HN.out 7 (.slice none 0 0)) 5 (.int .u32 0))
        exact ⟨_, (.slice none 0 0), (.slice au (lb ty).length cu), rfl, (by simp [ownQ]), (hp_set (hp_set HB.out 7 (.slice none 0 0)) 5 (.int .u32 0)), hn, (RdM.nil _ _), (HU.out.new hn)⟩
      · -- 5
        have z5 : wb.cell? ⟨w.heap.size, 5, none⟩ = some (.int .u32 x) := cellAt HB.out 5 rfl
        have z6 : wb.cell? ⟨w.heap.size, 6, none⟩ = some (.int .u32 y) := cellAt HB.out 6 rfl
        have f5 : wb.frozen? ⟨w.heap.size, 5, none⟩ = false := frozenAt HB.out 5
        have f6 : wb.frozen? ⟨w.heap.size, 6, none⟩ = false := frozenAt HB.out 6
        go_wp2_with fail
        go_meet
        have hn := (setNew (setNew HN.out 5 (.int .u32 0)) 6 (.int .u32 0))
        exact ⟨_, (.slice al li.length cl), (.slice au (lb ty).length cu), rfl, (by simp [ownQ]), (hp_set (hp_set HB.out 5 (.int .u32 0)) 6 (.int .u32 0)), hn, (HL.out.new hn), (HU.out.new hn)⟩
      · -- 8
        have z5 : wb.cell? ⟨w.heap.size, 5, none⟩ = some (.int .u32 x) := cellAt HB.out 5 rfl
        have f5 : wb.frozen? ⟨w.heap.size, 5, none⟩ = false := frozenAt HB.out 5
        go_wp2_with fail
        go_meet
        have hn := (setNew HN.out 5 (.int .u32 0))
        exact ⟨_, (.slice al li.length cl), (.slice au (lb ty).length cu), rfl, (by simp [ownQ]), (hp_set HB.out 5 (.int .u32 0)), hn, (HL.out.new hn), (HU.out.new hn)⟩
      · -- 9
        by_cases hw : -2147483648 ≤ n ∧ n ≤ 2147483647
        · have hwr : (n == wrap64 (RowKit.wrap32 n)) = true := beq_iff_eq.mpr ((wrap32 n).mpr hw)
          have HWR := hid hw
          clear hw
          have z8 : wb.cell? ⟨w.heap.size, 8, none⟩ = some (.int .i64 n) := cellAt HB.out 8 rfl
          have f8 : wb.frozen? ⟨w.heap.size, 8, none⟩ = false := frozenAt HB.out 8
          go_wp2_with fail
          go_meet
          have hn := (setNew HN.out 8 (.int .i64 0))
          exact ⟨_, (.slice al li.length cl), (.slice au (lb ty).length cu), rfl, (by have := HWR.out; simp only [ownQ]; simp [this]), (hp_set HB.out 8 (.int .i64 0)), hn, (HL.out.new hn), (HU.out.new hn)⟩
        · have hwr : (n == wrap64 (RowKit.wrap32 n)) = false := beq_eq_false_iff_ne.mpr (fun h => hw ((wrap32 n).mp h))
          have HWR := hid hw
          clear hw
          have z8 : wb.cell? ⟨w.heap.size, 8, none⟩ = some (.int .i64 n) := cellAt HB.out 8 rfl
          have f8 : wb.frozen? ⟨w.heap.size, 8, none⟩ = false := frozenAt HB.out 8
          go_wp2_with fail
          go_meet
          have hn := (setNew HN.out 8 (.int .i64 0))
          exact ⟨_, (.slice al li.length cl), (.slice au (lb ty).length cu), rfl, (by have := HWR.out; simp only [ownQ]; simp [this]), (hp_set HB.out 8 (.int .i64 0)), hn, (HL.out.new hn), (HU.out.new hn)⟩
      · -- 10
        have z8 : wb.cell? ⟨w.heap.size, 8, none⟩ = some (.int .i64 n) := cellAt HB.out 8 rfl
        have f8 : wb.frozen? ⟨w.heap.size, 8, none⟩ = false := frozenAt HB.out 8
        go_wp2_with fail
        go_meet
        have hn := (setNew HN.out 8 (.int .i64 0))
        exact ⟨_, (.slice al li.length cl), (.slice au (lb ty).length cu), rfl, (by simp [ownQ]), (hp_set HB.out 8 (.int .i64 0)), hn, (HL.out.new hn), (HU.out.new hn)⟩
      · -- 11
        have HS2 := hid (fun l w => HSP.out 11 l w)
        rw [spanV_11] at HS2
        have HH2 := hid (fun w => HHA.out 4 4 raw.size w)
        obtain ⟨bh, hbh⟩ : ∃ bh, Span.has 4 4 raw.size = bh := ⟨_, rfl⟩
        rw [hbh] at HH2
        have y0 : wb.cell? ⟨wa.heap.size, 0, none⟩ = some (.int .i64 11) := cellAt HI.out 0 rfl
        have y1 : wb.cell? ⟨wa.heap.size, 1, none⟩ = some (.int .i64 ln) := cellAt HI.out 1 rfl
        have z9 : wb.cell? ⟨w.heap.size, 9, none⟩ = some (.string raw) := cellAt HB.out 9 rfl
        have f9 : wb.frozen? ⟨w.heap.size, 9, none⟩ = false := frozenAt HB.out 9
        have HBH := hid hbh
        clear hbh
        cases bh with
        | true =>
          have hn : (fun w' => New w w' ∧ w'.heap[wa.heap.size]? = some (.cells #[.int .i64 11, .int .i64 ln] 123)) wb.drew := ⟨HN.out.drew, HI.out⟩
          have hbx : Box wb.drew w.heap.size ⟨p, c, k, t, i, x, y, li, n, raw, lane, ty⟩ (.slice al li.length cl) (.slice au (lb ty).length cu) := HB.out
          clear y0 y1 z9 f9
          go_wp2_with fail
          refine wp_region_noPanic ?_
          refine wp_region_held_drew (S := (fun w' => New w w' ∧ w'.heap[wa.heap.size]? = some (.cells #[.int .i64 11, .int .i64 ln] 123))) (by kernel_rfl) (by first | exact hn | exact (Upd.refl _ _).drew | exact Upd.drew (by assumption)) (fun hn => ?_)
          generalize wb.drew = wd at *
          refine wpAnyH_take (i := 0) (oi := { dst := some 57, op := Op.move (Operand.tmp 4), type := 4, pos := "instr.go:64", after := #[], guard := none }) (v := ?v6x1) rfl (by kernel_rfl) (by kernel_rfl) (by kernel_rfl) (fun _ _ _ h => h) (Or.inl ⟨by rfl, ?y6x1⟩) hn ?r6x1
          case y6x1 => (intro wS hS; (try go_simp); (try with_reducible rfl))
          try simp only [Act.put, List.setIfInBounds_toArray, List.set_cons_zero, List.set_cons_succ]
          refine wpAnyH_take (i := 1) (oi := { dst := some 58, op := Op.move (Operand.tmp 57), type := 4, pos := "instr.go:64", after := #[{ on := 0, ground := Ground.data }], guard := none }) (v := ?v6x2) rfl (by kernel_rfl) (by kernel_rfl) (by kernel_rfl) (fun _ _ _ h => h) (Or.inl ⟨by rfl, ?y6x2⟩) hn ?r6x2
          case y6x2 => (intro wS hS; (try go_simp); (try with_reducible rfl))
          try simp only [Act.put, List.setIfInBounds_toArray, List.set_cons_zero, List.set_cons_succ]
          refine wpAnyH_take (i := 2) (oi := { dst := some 59, op := Op.load 123 (Operand.tmp 3), type := 123, pos := "instr.go:64", after := #[{ on := 1, ground := Ground.guard }], guard := some (1, true) }) (v := ?v6x3) rfl (by kernel_rfl) (by kernel_rfl) (by kernel_rfl) (fun _ _ _ h => h) (Or.inl ⟨by rfl, ?y6x3⟩) hn ?r6x3
          case y6x3 => (intro wS hS; have c0 := cellAt hS.2 0 rfl; have c1 := cellAt hS.2 1 rfl; (try go_simp); (try with_reducible rfl))
          try simp only [Act.put, List.setIfInBounds_toArray, List.set_cons_zero, List.set_cons_succ]
          refine wpAnyH_take (i := 4) (oi := { dst := some 61, op := Op.fieldAddr 93 (Operand.tmp 1) 6, type := 0, pos := "instr.go:64", after := #[{ on := 1, ground := Ground.guard }], guard := some (1, true) }) (v := ?v6x4) rfl (by kernel_rfl) (by kernel_rfl) (by kernel_rfl) (fun _ _ _ h => h) (Or.inl ⟨by rfl, ?y6x4⟩) hn ?r6x4
          case y6x4 => (intro wS hS; (try go_simp); (try with_reducible rfl))
          try simp only [Act.put, List.setIfInBounds_toArray, List.set_cons_zero, List.set_cons_succ]
          refine wpAnyH_ready (rs := [3, 5]) (by kernel_rfl) (by simp) ?_
          refine AllReadyH.cons (o := { dst := some 60, op := Op.call { callee := Callee.value (Operand.func 53), args := #[Operand.tmp 59], argTypes := #[123] }, type := 127, pos := "instr.go:64", after := #[{ on := 2, ground := Ground.data }, { on := 1, ground := Ground.chain }, { on := 1, ground := Ground.guard }], guard := some (1, true) }) rfl (fun K hK => ?_) ?_
          · skip
            go_simp
            refine (HS2.out _ _).mono ?_
            rintro e wq ⟨rfl, hnq⟩
            go_wp2_with fail
            have hbx := hp1 hbx hnq
            have hn : (fun w' => New w w' ∧ w'.heap[wa.heap.size]? = some (.cells #[.int .i64 11, .int .i64 ln] 123)) wq := ⟨New.trans hn.1 hnq, hp1 hn.2 hnq⟩
            refine hK.out _ _ (by first | exact hn | exact Upd.alloc hn _) (fun hn => ?_)
            clear hK K
            try simp only [Act.put, List.setIfInBounds_toArray, List.set_cons_zero, List.set_cons_succ]
            refine wpAnyH_ready (rs := [5]) (by kernel_rfl) (by simp) ?_
            refine AllReadyH.cons (o := { dst := some 62, op := Op.load 9 (Operand.tmp 61), type := 9, pos := "instr.go:64", after := #[{ on := 4, ground := Ground.data }, { on := 1, ground := Ground.guard }], guard := some (1, true) }) rfl (fun K hK => ?_) AllReadyH.nil
            have z9 := cellAt hbx 9 (v := .string raw) rfl
            go_simp
            refine hK.out _ _ (by first | exact hn | exact Upd.alloc hn _) (fun hn => ?_)
            clear hK K
            try simp only [Act.put, List.setIfInBounds_toArray, List.set_cons_zero, List.set_cons_succ]
            refine wpAnyH_take (i := 6) (oi := { dst := some 63, op := Op.call { callee := Callee.builtin Builtin.len, args := #[Operand.tmp 62], argTypes := #[9] }, type := 3, pos := "instr.go:64", after := #[{ on := 5, ground := Ground.data }, { on := 1, ground := Ground.guard }], guard := some (1, true) }) (v := ?v6x5) rfl (by kernel_rfl) (by kernel_rfl) (by kernel_rfl) (fun _ _ _ h => h) (Or.inl ⟨by rfl, ?y6x5⟩) hn ?r6x5
            case y6x5 => (intro wS hS; (try go_simp); (try with_reducible rfl))
            try simp only [Act.put, List.setIfInBounds_toArray, List.set_cons_zero, List.set_cons_succ]
            refine wpAnyH_ready (rs := [7]) (by kernel_rfl) (by simp) ?_
            refine AllReadyH.cons (o := { dst := some 64, op := Op.call { callee := Callee.value (Operand.func 54), args := #[Operand.tmp 60, Operand.tmp 63], argTypes := #[127, 3] }, type := 4, pos := "instr.go:64", after := #[{ on := 3, ground := Ground.data }, { on := 6, ground := Ground.data }, { on := 3, ground := Ground.chain }, { on := 1, ground := Ground.guard }], guard := some (1, true) }) rfl (fun K hK => ?_) AllReadyH.nil
            go_simp
            refine (HH2.out _).mono ?_
            rintro e wr ⟨rfl, hnq⟩
            go_wp2_with fail
            have hbx := hp1 hbx hnq
            have hn : (fun w' => New w w' ∧ w'.heap[wa.heap.size]? = some (.cells #[.int .i64 11, .int .i64 ln] 123)) wr := ⟨New.trans hn.1 hnq, hp1 hn.2 hnq⟩
            refine hK.out _ _ (by first | exact hn | exact Upd.alloc hn _) (fun hn => ?_)
            clear hK K
            try simp only [Act.put, List.setIfInBounds_toArray, List.set_cons_zero, List.set_cons_succ]
            refine wpAnyH_take (i := 8) (oi := { dst := some 65, op := Op.pick (Operand.tmp 58) (Operand.tmp 64) (Operand.const (Value.bool false)), type := 4, pos := "instr.go:64", after := #[{ on := 1, ground := Ground.data }, { on := 7, ground := Ground.data }], guard := none }) (v := ?v6x6) rfl (by kernel_rfl) (by kernel_rfl) (by kernel_rfl) (fun _ _ _ h => h) (Or.inl ⟨by rfl, ?y6x6⟩) hn ?r6x6
            case y6x6 => (intro wS hS; (try go_simp); (try with_reducible rfl))
            try simp only [Act.put, List.setIfInBounds_toArray, List.set_cons_zero, List.set_cons_succ]
            refine wpAnyH_take (i := 9) (oi := { dst := some 66, op := Op.move (Operand.tmp 65), type := 4, pos := "instr.go:64", after := #[{ on := 8, ground := Ground.data }, { on := 7, ground := Ground.chain }], guard := none }) (v := ?v6x7) rfl (by kernel_rfl) (by kernel_rfl) (by kernel_rfl) (fun _ _ _ h => h) (Or.inl ⟨by rfl, ?y6x7⟩) hn ?r6x7
            case y6x7 => (intro wS hS; (try go_simp); (try with_reducible rfl))
            try simp only [Act.put, List.setIfInBounds_toArray, List.set_cons_zero, List.set_cons_succ]
            refine wpAnyH_take (i := 10) (oi := { dst := some 67, op := Op.fieldAddr 123 (Operand.tmp 3) 0, type := 0, pos := "instr.go:64", after := #[{ on := 9, ground := Ground.guard }], guard := some (9, true) }) (v := ?v6x8) rfl (by kernel_rfl) (by kernel_rfl) (by kernel_rfl) (fun _ _ _ h => h) (Or.inl ⟨by rfl, ?y6x8⟩) hn ?r6x8
            case y6x8 => (intro wS hS; (try go_simp); (try with_reducible rfl))
            try simp only [Act.put, List.setIfInBounds_toArray, List.set_cons_zero, List.set_cons_succ]
            refine wpAnyH_take (i := 11) (oi := { dst := some 68, op := Op.load 3 (Operand.tmp 67), type := 3, pos := "instr.go:64", after := #[{ on := 10, ground := Ground.data }, { on := 9, ground := Ground.guard }], guard := some (9, true) }) (v := ?v6x9) rfl (by kernel_rfl) (by kernel_rfl) (by kernel_rfl) (fun _ _ _ h => h) (Or.inl ⟨by rfl, ?y6x9⟩) hn ?r6x9
            case y6x9 => (intro wS hS; have c0 := cellAt hS.2 0 rfl; (try go_simp); (try with_reducible rfl))
            try simp only [Act.put, List.setIfInBounds_toArray, List.set_cons_zero, List.set_cons_succ]
            refine wpAnyH_take (i := 12) (oi := { dst := some 69, op := Op.binOp BinOp.neq 3 (Operand.tmp 68) (Operand.const (Value.int IntKind.i64 14)) 3, type := 4, pos := "instr.go:64", after := #[{ on := 11, ground := Ground.data }, { on := 9, ground := Ground.guard }], guard := some (9, true) }) (v := ?v6x10) rfl (by kernel_rfl) (by kernel_rfl) (by kernel_rfl) (fun _ _ _ h => h) (Or.inl ⟨by rfl, ?y6x10⟩) hn ?r6x10
            case y6x10 => (intro wS hS; (try go_simp); (try with_reducible rfl))
            try simp only [Act.put, List.setIfInBounds_toArray, List.set_cons_zero, List.set_cons_succ]
            refine wpAnyH_take (i := 13) (oi := { dst := some 70, op := Op.move (Operand.tmp 69), type := 4, pos := "instr.go:64", after := #[{ on := 12, ground := Ground.data }, { on := 9, ground := Ground.chain }, { on := 9, ground := Ground.guard }], guard := some (9, true) }) (v := ?v6x11) rfl (by kernel_rfl) (by kernel_rfl) (by kernel_rfl) (fun _ _ _ h => h) (Or.inl ⟨by rfl, ?y6x11⟩) hn ?r6x11
            case y6x11 => (intro wS hS; (try go_simp); (try with_reducible rfl))
            try simp only [Act.put, List.setIfInBounds_toArray, List.set_cons_zero, List.set_cons_succ]
            refine wpAnyH_take (i := 14) (oi := { dst := some 71, op := Op.fieldAddr 93 (Operand.tmp 1) 6, type := 0, pos := "instr.go:64", after := #[{ on := 13, ground := Ground.guard }], guard := some (13, false) }) (v := undef) rfl (by kernel_rfl) (by kernel_rfl) (by kernel_rfl) (fun _ _ _ h => h) (Or.inr ⟨by rfl, rfl⟩) hn ?_
            try simp only [Act.put, List.setIfInBounds_toArray, List.set_cons_zero, List.set_cons_succ]
            refine wpAnyH_take (i := 15) (oi := { dst := some 72, op := Op.load 9 (Operand.tmp 71), type := 9, pos := "instr.go:64", after := #[{ on := 14, ground := Ground.data }, { on := 13, ground := Ground.guard }], guard := some (13, false) }) (v := undef) rfl (by kernel_rfl) (by kernel_rfl) (by kernel_rfl) (fun _ _ _ h => h) (Or.inr ⟨by rfl, rfl⟩) hn ?_
            try simp only [Act.put, List.setIfInBounds_toArray, List.set_cons_zero, List.set_cons_succ]
            refine wpAnyH_take (i := 16) (oi := { dst := some 73, op := Op.call { callee := Callee.value (Operand.func 55), args := #[Operand.tmp 72], argTypes := #[9] }, type := 4, pos := "instr.go:64", after := #[{ on := 15, ground := Ground.data }, { on := 13, ground := Ground.chain }, { on := 13, ground := Ground.guard }], guard := some (13, false) }) (v := undef) rfl (by kernel_rfl) (by kernel_rfl) (by kernel_rfl) (fun _ _ _ h => h) (Or.inr ⟨by rfl, rfl⟩) hn ?_
            try simp only [Act.put, List.setIfInBounds_toArray, List.set_cons_zero, List.set_cons_succ]
            refine wpAnyH_take (i := 17) (oi := { dst := some 74, op := Op.pick (Operand.tmp 70) (Operand.const (Value.bool true)) (Operand.tmp 73), type := 4, pos := "instr.go:64", after := #[{ on := 13, ground := Ground.data }, { on := 16, ground := Ground.data }, { on := 9, ground := Ground.guard }], guard := some (9, true) }) (v := ?v6x15) rfl (by kernel_rfl) (by kernel_rfl) (by kernel_rfl) (fun _ _ _ h => h) (Or.inl ⟨by rfl, ?y6x15⟩) hn ?r6x15
            case y6x15 => (intro wS hS; (try go_simp); (try with_reducible rfl))
            try simp only [Act.put, List.setIfInBounds_toArray, List.set_cons_zero, List.set_cons_succ]
            refine wpAnyH_take (i := 18) (oi := { dst := some 75, op := Op.pick (Operand.tmp 66) (Operand.tmp 74) (Operand.const (Value.bool false)), type := 4, pos := "instr.go:64", after := #[{ on := 9, ground := Ground.data }, { on := 17, ground := Ground.data }], guard := none }) (v := ?v6x16) rfl (by kernel_rfl) (by kernel_rfl) (by kernel_rfl) (fun _ _ _ h => h) (Or.inl ⟨by rfl, ?y6x16⟩) hn ?r6x16
            case y6x16 => (intro wS hS; (try go_simp); (try with_reducible rfl))
            try simp only [Act.put, List.setIfInBounds_toArray, List.set_cons_zero, List.set_cons_succ]
            refine wpAnyH_take (i := 19) (oi := { dst := some 4, op := Op.assign (Operand.tmp 75), type := 4, pos := "instr.go:64", after := #[{ on := 18, ground := Ground.data }, { on := 16, ground := Ground.chain }, { on := 0, ground := Ground.phase }, { on := 1, ground := Ground.phase }, { on := 2, ground := Ground.phase }, { on := 3, ground := Ground.phase }, { on := 4, ground := Ground.phase }, { on := 5, ground := Ground.phase }, { on := 6, ground := Ground.phase }, { on := 7, ground := Ground.phase }, { on := 8, ground := Ground.phase }, { on := 9, ground := Ground.phase }, { on := 10, ground := Ground.phase }, { on := 11, ground := Ground.phase }, { on := 12, ground := Ground.phase }, { on := 13, ground := Ground.phase }, { on := 14, ground := Ground.phase }, { on := 15, ground := Ground.phase }, { on := 16, ground := Ground.phase }, { on := 17, ground := Ground.phase }, { on := 18, ground := Ground.phase }], guard := none }) (v := ?v6x17) rfl (by kernel_rfl) (by kernel_rfl) (by kernel_rfl) (fun _ _ _ h => h) (Or.inl ⟨by rfl, ?y6x17⟩) hn ?r6x17
            case y6x17 => (intro wS hS; (try go_simp); (try with_reducible rfl))
            try simp only [Act.put, List.setIfInBounds_toArray, List.set_cons_zero, List.set_cons_succ]
            refine wpAnyH_take (i := 20) (oi := { dst := some 76, op := Op.fieldAddr 93 (Operand.tmp 1) 6, type := 0, pos := "instr.go:64", after := #[{ on := 0, ground := Ground.phase }, { on := 1, ground := Ground.phase }, { on := 2, ground := Ground.phase }, { on := 3, ground := Ground.phase }, { on := 4, ground := Ground.phase }, { on := 5, ground := Ground.phase }, { on := 6, ground := Ground.phase }, { on := 7, ground := Ground.phase }, { on := 8, ground := Ground.phase }, { on := 9, ground := Ground.phase }, { on := 10, ground := Ground.phase }, { on := 11, ground := Ground.phase }, { on := 12, ground := Ground.phase }, { on := 13, ground := Ground.phase }, { on := 14, ground := Ground.phase }, { on := 15, ground := Ground.phase }, { on := 16, ground := Ground.phase }, { on := 17, ground := Ground.phase }, { on := 18, ground := Ground.phase }, { on := 19, ground := Ground.phase }], guard := none }) (v := ?v6x18) rfl (by kernel_rfl) (by kernel_rfl) (by kernel_rfl) (fun _ _ _ h => h) (Or.inl ⟨by rfl, ?y6x18⟩) hn ?r6x18
            case y6x18 => (intro wS hS; (try go_simp); (try with_reducible rfl))
            try simp only [Act.put, List.setIfInBounds_toArray, List.set_cons_zero, List.set_cons_succ]
            refine wpAnyH_ready (rs := [21]) (by kernel_rfl) (by simp) ?_
            refine AllReadyH.cons (o := { dst := none, op := Op.store 9 (Operand.tmp 76) (Operand.const (Value.string { data := #[] })), type := 0, pos := "instr.go:64", after := #[{ on := 20, ground := Ground.data }, { on := 19, ground := Ground.chain }, { on := 0, ground := Ground.phase }, { on := 1, ground := Ground.phase }, { on := 2, ground := Ground.phase }, { on := 3, ground := Ground.phase }, { on := 4, ground := Ground.phase }, { on := 5, ground := Ground.phase }, { on := 6, ground := Ground.phase }, { on := 7, ground := Ground.phase }, { on := 8, ground := Ground.phase }, { on := 9, ground := Ground.phase }, { on := 10, ground := Ground.phase }, { on := 11, ground := Ground.phase }, { on := 12, ground := Ground.phase }, { on := 13, ground := Ground.phase }, { on := 14, ground := Ground.phase }, { on := 15, ground := Ground.phase }, { on := 16, ground := Ground.phase }, { on := 17, ground := Ground.phase }, { on := 18, ground := Ground.phase }, { on := 19, ground := Ground.phase }], guard := none }) rfl (fun K hK => ?_) AllReadyH.nil
            have z9 := cellAt hbx 9 (v := .string raw) rfl
            have f9 := frozenAt hbx 9
            go_simp
            have hbx := hp_set hbx 9 (.string ⟨#[]⟩)
            have hn : (fun w' => New w w' ∧ w'.heap[wa.heap.size]? = some (.cells #[.int .i64 11, .int .i64 ln] 123)) (wr.setCell ⟨w.heap.size, 9, none⟩ (.string ⟨#[]⟩)) := ⟨setNew hn.1 9 _, hp_other hn.2 HNE.out⟩
            refine hK.out _ _ (by first | exact hn | exact Upd.alloc hn _) (fun hn => ?_)
            clear hK K
            try simp only [Act.put, List.setIfInBounds_toArray, List.set_cons_zero, List.set_cons_succ]
            refine wpAnyH_done (by kernel_rfl) ?_ _
            refine NoPanic.normal ?_
            go_wp2_with fail
            go_meet
            exact ⟨_, (.slice al li.length cl), (.slice au (lb ty).length cu), rfl, (by have h : raw.size = 4 := (by have := has_eq HBH.out; omega); simp [ownQ, h]), hbx, hn.1, HL.out.new hn.1, HU.out.new hn.1⟩
          refine AllReadyH.cons (o := { dst := some 62, op := Op.load 9 (Operand.tmp 61), type := 9, pos := "instr.go:64", after := #[{ on := 4, ground := Ground.data }, { on := 1, ground := Ground.guard }], guard := some (1, true) }) rfl (fun K hK => ?_) AllReadyH.nil
          have z9 := cellAt hbx 9 (v := .string raw) rfl
          go_simp
          refine hK.out _ _ (by first | exact hn | exact Upd.alloc hn _) (fun hn => ?_)
          clear hK K
          try simp only [Act.put, List.setIfInBounds_toArray, List.set_cons_zero, List.set_cons_succ]
          refine wpAnyH_take (i := 6) (oi := { dst := some 63, op := Op.call { callee := Callee.builtin Builtin.len, args := #[Operand.tmp 62], argTypes := #[9] }, type := 3, pos := "instr.go:64", after := #[{ on := 5, ground := Ground.data }, { on := 1, ground := Ground.guard }], guard := some (1, true) }) (v := ?v6x19) rfl (by kernel_rfl) (by kernel_rfl) (by kernel_rfl) (fun _ _ _ h => h) (Or.inl ⟨by rfl, ?y6x19⟩) hn ?r6x19
          case y6x19 => (intro wS hS; (try go_simp); (try with_reducible rfl))
          try simp only [Act.put, List.setIfInBounds_toArray, List.set_cons_zero, List.set_cons_succ]
          refine wpAnyH_ready (rs := [3]) (by kernel_rfl) (by simp) ?_
          refine AllReadyH.cons (o := { dst := some 60, op := Op.call { callee := Callee.value (Operand.func 53), args := #[Operand.tmp 59], argTypes := #[123] }, type := 127, pos := "instr.go:64", after := #[{ on := 2, ground := Ground.data }, { on := 1, ground := Ground.chain }, { on := 1, ground := Ground.guard }], guard := some (1, true) }) rfl (fun K hK => ?_) AllReadyH.nil
          go_simp
          refine (HS2.out _ _).mono ?_
          rintro e wq ⟨rfl, hnq⟩
          go_wp2_with fail
          have hbx := hp1 hbx hnq
          have hn : (fun w' => New w w' ∧ w'.heap[wa.heap.size]? = some (.cells #[.int .i64 11, .int .i64 ln] 123)) wq := ⟨New.trans hn.1 hnq, hp1 hn.2 hnq⟩
          refine hK.out _ _ (by first | exact hn | exact Upd.alloc hn _) (fun hn => ?_)
          clear hK K
          try simp only [Act.put, List.setIfInBounds_toArray, List.set_cons_zero, List.set_cons_succ]
          refine wpAnyH_ready (rs := [7]) (by kernel_rfl) (by simp) ?_
          refine AllReadyH.cons (o := { dst := some 64, op := Op.call { callee := Callee.value (Operand.func 54), args := #[Operand.tmp 60, Operand.tmp 63], argTypes := #[127, 3] }, type := 4, pos := "instr.go:64", after := #[{ on := 3, ground := Ground.data }, { on := 6, ground := Ground.data }, { on := 3, ground := Ground.chain }, { on := 1, ground := Ground.guard }], guard := some (1, true) }) rfl (fun K hK => ?_) AllReadyH.nil
          go_simp
          refine (HH2.out _).mono ?_
          rintro e wr ⟨rfl, hnq⟩
          go_wp2_with fail
          have hbx := hp1 hbx hnq
          have hn : (fun w' => New w w' ∧ w'.heap[wa.heap.size]? = some (.cells #[.int .i64 11, .int .i64 ln] 123)) wr := ⟨New.trans hn.1 hnq, hp1 hn.2 hnq⟩
          refine hK.out _ _ (by first | exact hn | exact Upd.alloc hn _) (fun hn => ?_)
          clear hK K
          try simp only [Act.put, List.setIfInBounds_toArray, List.set_cons_zero, List.set_cons_succ]
          refine wpAnyH_take (i := 8) (oi := { dst := some 65, op := Op.pick (Operand.tmp 58) (Operand.tmp 64) (Operand.const (Value.bool false)), type := 4, pos := "instr.go:64", after := #[{ on := 1, ground := Ground.data }, { on := 7, ground := Ground.data }], guard := none }) (v := ?v6x20) rfl (by kernel_rfl) (by kernel_rfl) (by kernel_rfl) (fun _ _ _ h => h) (Or.inl ⟨by rfl, ?y6x20⟩) hn ?r6x20
          case y6x20 => (intro wS hS; (try go_simp); (try with_reducible rfl))
          try simp only [Act.put, List.setIfInBounds_toArray, List.set_cons_zero, List.set_cons_succ]
          refine wpAnyH_take (i := 9) (oi := { dst := some 66, op := Op.move (Operand.tmp 65), type := 4, pos := "instr.go:64", after := #[{ on := 8, ground := Ground.data }, { on := 7, ground := Ground.chain }], guard := none }) (v := ?v6x21) rfl (by kernel_rfl) (by kernel_rfl) (by kernel_rfl) (fun _ _ _ h => h) (Or.inl ⟨by rfl, ?y6x21⟩) hn ?r6x21
          case y6x21 => (intro wS hS; (try go_simp); (try with_reducible rfl))
          try simp only [Act.put, List.setIfInBounds_toArray, List.set_cons_zero, List.set_cons_succ]
          refine wpAnyH_take (i := 10) (oi := { dst := some 67, op := Op.fieldAddr 123 (Operand.tmp 3) 0, type := 0, pos := "instr.go:64", after := #[{ on := 9, ground := Ground.guard }], guard := some (9, true) }) (v := ?v6x22) rfl (by kernel_rfl) (by kernel_rfl) (by kernel_rfl) (fun _ _ _ h => h) (Or.inl ⟨by rfl, ?y6x22⟩) hn ?r6x22
          case y6x22 => (intro wS hS; (try go_simp); (try with_reducible rfl))
          try simp only [Act.put, List.setIfInBounds_toArray, List.set_cons_zero, List.set_cons_succ]
          refine wpAnyH_take (i := 11) (oi := { dst := some 68, op := Op.load 3 (Operand.tmp 67), type := 3, pos := "instr.go:64", after := #[{ on := 10, ground := Ground.data }, { on := 9, ground := Ground.guard }], guard := some (9, true) }) (v := ?v6x23) rfl (by kernel_rfl) (by kernel_rfl) (by kernel_rfl) (fun _ _ _ h => h) (Or.inl ⟨by rfl, ?y6x23⟩) hn ?r6x23
          case y6x23 => (intro wS hS; have c0 := cellAt hS.2 0 rfl; (try go_simp); (try with_reducible rfl))
          try simp only [Act.put, List.setIfInBounds_toArray, List.set_cons_zero, List.set_cons_succ]
          refine wpAnyH_take (i := 12) (oi := { dst := some 69, op := Op.binOp BinOp.neq 3 (Operand.tmp 68) (Operand.const (Value.int IntKind.i64 14)) 3, type := 4, pos := "instr.go:64", after := #[{ on := 11, ground := Ground.data }, { on := 9, ground := Ground.guard }], guard := some (9, true) }) (v := ?v6x24) rfl (by kernel_rfl) (by kernel_rfl) (by kernel_rfl) (fun _ _ _ h => h) (Or.inl ⟨by rfl, ?y6x24⟩) hn ?r6x24
          case y6x24 => (intro wS hS; (try go_simp); (try with_reducible rfl))
          try simp only [Act.put, List.setIfInBounds_toArray, List.set_cons_zero, List.set_cons_succ]
          refine wpAnyH_take (i := 13) (oi := { dst := some 70, op := Op.move (Operand.tmp 69), type := 4, pos := "instr.go:64", after := #[{ on := 12, ground := Ground.data }, { on := 9, ground := Ground.chain }, { on := 9, ground := Ground.guard }], guard := some (9, true) }) (v := ?v6x25) rfl (by kernel_rfl) (by kernel_rfl) (by kernel_rfl) (fun _ _ _ h => h) (Or.inl ⟨by rfl, ?y6x25⟩) hn ?r6x25
          case y6x25 => (intro wS hS; (try go_simp); (try with_reducible rfl))
          try simp only [Act.put, List.setIfInBounds_toArray, List.set_cons_zero, List.set_cons_succ]
          refine wpAnyH_take (i := 14) (oi := { dst := some 71, op := Op.fieldAddr 93 (Operand.tmp 1) 6, type := 0, pos := "instr.go:64", after := #[{ on := 13, ground := Ground.guard }], guard := some (13, false) }) (v := undef) rfl (by kernel_rfl) (by kernel_rfl) (by kernel_rfl) (fun _ _ _ h => h) (Or.inr ⟨by rfl, rfl⟩) hn ?_
          try simp only [Act.put, List.setIfInBounds_toArray, List.set_cons_zero, List.set_cons_succ]
          refine wpAnyH_take (i := 15) (oi := { dst := some 72, op := Op.load 9 (Operand.tmp 71), type := 9, pos := "instr.go:64", after := #[{ on := 14, ground := Ground.data }, { on := 13, ground := Ground.guard }], guard := some (13, false) }) (v := undef) rfl (by kernel_rfl) (by kernel_rfl) (by kernel_rfl) (fun _ _ _ h => h) (Or.inr ⟨by rfl, rfl⟩) hn ?_
          try simp only [Act.put, List.setIfInBounds_toArray, List.set_cons_zero, List.set_cons_succ]
          refine wpAnyH_take (i := 16) (oi := { dst := some 73, op := Op.call { callee := Callee.value (Operand.func 55), args := #[Operand.tmp 72], argTypes := #[9] }, type := 4, pos := "instr.go:64", after := #[{ on := 15, ground := Ground.data }, { on := 13, ground := Ground.chain }, { on := 13, ground := Ground.guard }], guard := some (13, false) }) (v := undef) rfl (by kernel_rfl) (by kernel_rfl) (by kernel_rfl) (fun _ _ _ h => h) (Or.inr ⟨by rfl, rfl⟩) hn ?_
          try simp only [Act.put, List.setIfInBounds_toArray, List.set_cons_zero, List.set_cons_succ]
          refine wpAnyH_take (i := 17) (oi := { dst := some 74, op := Op.pick (Operand.tmp 70) (Operand.const (Value.bool true)) (Operand.tmp 73), type := 4, pos := "instr.go:64", after := #[{ on := 13, ground := Ground.data }, { on := 16, ground := Ground.data }, { on := 9, ground := Ground.guard }], guard := some (9, true) }) (v := ?v6x29) rfl (by kernel_rfl) (by kernel_rfl) (by kernel_rfl) (fun _ _ _ h => h) (Or.inl ⟨by rfl, ?y6x29⟩) hn ?r6x29
          case y6x29 => (intro wS hS; (try go_simp); (try with_reducible rfl))
          try simp only [Act.put, List.setIfInBounds_toArray, List.set_cons_zero, List.set_cons_succ]
          refine wpAnyH_take (i := 18) (oi := { dst := some 75, op := Op.pick (Operand.tmp 66) (Operand.tmp 74) (Operand.const (Value.bool false)), type := 4, pos := "instr.go:64", after := #[{ on := 9, ground := Ground.data }, { on := 17, ground := Ground.data }], guard := none }) (v := ?v6x30) rfl (by kernel_rfl) (by kernel_rfl) (by kernel_rfl) (fun _ _ _ h => h) (Or.inl ⟨by rfl, ?y6x30⟩) hn ?r6x30
          case y6x30 => (intro wS hS; (try go_simp); (try with_reducible rfl))
          try simp only [Act.put, List.setIfInBounds_toArray, List.set_cons_zero, List.set_cons_succ]
          refine wpAnyH_take (i := 19) (oi := { dst := some 4, op := Op.assign (Operand.tmp 75), type := 4, pos := "instr.go:64", after := #[{ on := 18, ground := Ground.data }, { on := 16, ground := Ground.chain }, { on := 0, ground := Ground.phase }, { on := 1, ground := Ground.phase }, { on := 2, ground := Ground.phase }, { on := 3, ground := Ground.phase }, { on := 4, ground := Ground.phase }, { on := 5, ground := Ground.phase }, { on := 6, ground := Ground.phase }, { on := 7, ground := Ground.phase }, { on := 8, ground := Ground.phase }, { on := 9, ground := Ground.phase }, { on := 10, ground := Ground.phase }, { on := 11, ground := Ground.phase }, { on := 12, ground := Ground.phase }, { on := 13, ground := Ground.phase }, { on := 14, ground := Ground.phase }, { on := 15, ground := Ground.phase }, { on := 16, ground := Ground.phase }, { on := 17, ground := Ground.phase }, { on := 18, ground := Ground.phase }], guard := none }) (v := ?v6x31) rfl (by kernel_rfl) (by kernel_rfl) (by kernel_rfl) (fun _ _ _ h => h) (Or.inl ⟨by rfl, ?y6x31⟩) hn ?r6x31
          case y6x31 => (intro wS hS; (try go_simp); (try with_reducible rfl))
          try simp only [Act.put, List.setIfInBounds_toArray, List.set_cons_zero, List.set_cons_succ]
          refine wpAnyH_take (i := 20) (oi := { dst := some 76, op := Op.fieldAddr 93 (Operand.tmp 1) 6, type := 0, pos := "instr.go:64", after := #[{ on := 0, ground := Ground.phase }, { on := 1, ground := Ground.phase }, { on := 2, ground := Ground.phase }, { on := 3, ground := Ground.phase }, { on := 4, ground := Ground.phase }, { on := 5, ground := Ground.phase }, { on := 6, ground := Ground.phase }, { on := 7, ground := Ground.phase }, { on := 8, ground := Ground.phase }, { on := 9, ground := Ground.phase }, { on := 10, ground := Ground.phase }, { on := 11, ground := Ground.phase }, { on := 12, ground := Ground.phase }, { on := 13, ground := Ground.phase }, { on := 14, ground := Ground.phase }, { on := 15, ground := Ground.phase }, { on := 16, ground := Ground.phase }, { on := 17, ground := Ground.phase }, { on := 18, ground := Ground.phase }, { on := 19, ground := Ground.phase }], guard := none }) (v := ?v6x32) rfl (by kernel_rfl) (by kernel_rfl) (by kernel_rfl) (fun _ _ _ h => h) (Or.inl ⟨by rfl, ?y6x32⟩) hn ?r6x32
          case y6x32 => (intro wS hS; (try go_simp); (try with_reducible rfl))
          try simp only [Act.put, List.setIfInBounds_toArray, List.set_cons_zero, List.set_cons_succ]
          refine wpAnyH_ready (rs := [21]) (by kernel_rfl) (by simp) ?_
          refine AllReadyH.cons (o := { dst := none, op := Op.store 9 (Operand.tmp 76) (Operand.const (Value.string { data := #[] })), type := 0, pos := "instr.go:64", after := #[{ on := 20, ground := Ground.data }, { on := 19, ground := Ground.chain }, { on := 0, ground := Ground.phase }, { on := 1, ground := Ground.phase }, { on := 2, ground := Ground.phase }, { on := 3, ground := Ground.phase }, { on := 4, ground := Ground.phase }, { on := 5, ground := Ground.phase }, { on := 6, ground := Ground.phase }, { on := 7, ground := Ground.phase }, { on := 8, ground := Ground.phase }, { on := 9, ground := Ground.phase }, { on := 10, ground := Ground.phase }, { on := 11, ground := Ground.phase }, { on := 12, ground := Ground.phase }, { on := 13, ground := Ground.phase }, { on := 14, ground := Ground.phase }, { on := 15, ground := Ground.phase }, { on := 16, ground := Ground.phase }, { on := 17, ground := Ground.phase }, { on := 18, ground := Ground.phase }, { on := 19, ground := Ground.phase }], guard := none }) rfl (fun K hK => ?_) AllReadyH.nil
          have z9 := cellAt hbx 9 (v := .string raw) rfl
          have f9 := frozenAt hbx 9
          go_simp
          have hbx := hp_set hbx 9 (.string ⟨#[]⟩)
          have hn : (fun w' => New w w' ∧ w'.heap[wa.heap.size]? = some (.cells #[.int .i64 11, .int .i64 ln] 123)) (wr.setCell ⟨w.heap.size, 9, none⟩ (.string ⟨#[]⟩)) := ⟨setNew hn.1 9 _, hp_other hn.2 HNE.out⟩
          refine hK.out _ _ (by first | exact hn | exact Upd.alloc hn _) (fun hn => ?_)
          clear hK K
          try simp only [Act.put, List.setIfInBounds_toArray, List.set_cons_zero, List.set_cons_succ]
          refine wpAnyH_done (by kernel_rfl) ?_ _
          refine NoPanic.normal ?_
          go_wp2_with fail
          go_meet
          exact ⟨_, (.slice al li.length cl), (.slice au (lb ty).length cu), rfl, (by have h : raw.size = 4 := (by have := has_eq HBH.out; omega); simp [ownQ, h]), hbx, hn.1, HL.out.new hn.1, HU.out.new hn.1⟩
        | false =>
          have hn : (fun w' => New w w' ∧ w'.heap[wa.heap.size]? = some (.cells #[.int .i64 11, .int .i64 ln] 123)) wb.drew := ⟨HN.out.drew, HI.out⟩
          have hbx : Box wb.drew w.heap.size ⟨p, c, k, t, i, x, y, li, n, raw, lane, ty⟩ (.slice al li.length cl) (.slice au (lb ty).length cu) := HB.out
          clear y0 y1 z9 f9
          go_wp2_with fail
          refine wp_region_noPanic ?_
          refine wp_region_held_drew (S := (fun w' => New w w' ∧ w'.heap[wa.heap.size]? = some (.cells #[.int .i64 11, .int .i64 ln] 123))) (by kernel_rfl) (by first | exact hn | exact (Upd.refl _ _).drew | exact Upd.drew (by assumption)) (fun hn => ?_)
          generalize wb.drew = wd at *
          refine wpAnyH_take (i := 0) (oi := { dst := some 57, op := Op.move (Operand.tmp 4), type := 4, pos := "instr.go:64", after := #[], guard := none }) (v := ?v7x1) rfl (by kernel_rfl) (by kernel_rfl) (by kernel_rfl) (fun _ _ _ h => h) (Or.inl ⟨by rfl, ?y7x1⟩) hn ?r7x1
          case y7x1 => (intro wS hS; (try go_simp); (try with_reducible rfl))
          try simp only [Act.put, List.setIfInBounds_toArray, List.set_cons_zero, List.set_cons_succ]
          refine wpAnyH_take (i := 1) (oi := { dst := some 58, op := Op.move (Operand.tmp 57), type := 4, pos := "instr.go:64", after := #[{ on := 0, ground := Ground.data }], guard := none }) (v := ?v7x2) rfl (by kernel_rfl) (by kernel_rfl) (by kernel_rfl) (fun _ _ _ h => h) (Or.inl ⟨by rfl, ?y7x2⟩) hn ?r7x2
          case y7x2 => (intro wS hS; (try go_simp); (try with_reducible rfl))
          try simp only [Act.put, List.setIfInBounds_toArray, List.set_cons_zero, List.set_cons_succ]
          refine wpAnyH_take (i := 2) (oi := { dst := some 59, op := Op.load 123 (Operand.tmp 3), type := 123, pos := "instr.go:64", after := #[{ on := 1, ground := Ground.guard }], guard := some (1, true) }) (v := ?v7x3) rfl (by kernel_rfl) (by kernel_rfl) (by kernel_rfl) (fun _ _ _ h => h) (Or.inl ⟨by rfl, ?y7x3⟩) hn ?r7x3
          case y7x3 => (intro wS hS; have c0 := cellAt hS.2 0 rfl; have c1 := cellAt hS.2 1 rfl; (try go_simp); (try with_reducible rfl))
          try simp only [Act.put, List.setIfInBounds_toArray, List.set_cons_zero, List.set_cons_succ]
          refine wpAnyH_take (i := 4) (oi := { dst := some 61, op := Op.fieldAddr 93 (Operand.tmp 1) 6, type := 0, pos := "instr.go:64", after := #[{ on := 1, ground := Ground.guard }], guard := some (1, true) }) (v := ?v7x4) rfl (by kernel_rfl) (by kernel_rfl) (by kernel_rfl) (fun _ _ _ h => h) (Or.inl ⟨by rfl, ?y7x4⟩) hn ?r7x4
          case y7x4 => (intro wS hS; (try go_simp); (try with_reducible rfl))
          try simp only [Act.put, List.setIfInBounds_toArray, List.set_cons_zero, List.set_cons_succ]
          refine wpAnyH_ready (rs := [3, 5]) (by kernel_rfl) (by simp) ?_
          refine AllReadyH.cons (o := { dst := some 60, op := Op.call { callee := Callee.value (Operand.func 53), args := #[Operand.tmp 59], argTypes := #[123] }, type := 127, pos := "instr.go:64", after := #[{ on := 2, ground := Ground.data }, { on := 1, ground := Ground.chain }, { on := 1, ground := Ground.guard }], guard := some (1, true) }) rfl (fun K hK => ?_) ?_
          · skip
            go_simp
            refine (HS2.out _ _).mono ?_
            rintro e wq ⟨rfl, hnq⟩
            go_wp2_with fail
            have hbx := hp1 hbx hnq
            have hn : (fun w' => New w w' ∧ w'.heap[wa.heap.size]? = some (.cells #[.int .i64 11, .int .i64 ln] 123)) wq := ⟨New.trans hn.1 hnq, hp1 hn.2 hnq⟩
            refine hK.out _ _ (by first | exact hn | exact Upd.alloc hn _) (fun hn => ?_)
            clear hK K
            try simp only [Act.put, List.setIfInBounds_toArray, List.set_cons_zero, List.set_cons_succ]
            refine wpAnyH_ready (rs := [5]) (by kernel_rfl) (by simp) ?_
            refine AllReadyH.cons (o := { dst := some 62, op := Op.load 9 (Operand.tmp 61), type := 9, pos := "instr.go:64", after := #[{ on := 4, ground := Ground.data }, { on := 1, ground := Ground.guard }], guard := some (1, true) }) rfl (fun K hK => ?_) AllReadyH.nil
            have z9 := cellAt hbx 9 (v := .string raw) rfl
            go_simp
            refine hK.out _ _ (by first | exact hn | exact Upd.alloc hn _) (fun hn => ?_)
            clear hK K
            try simp only [Act.put, List.setIfInBounds_toArray, List.set_cons_zero, List.set_cons_succ]
            refine wpAnyH_take (i := 6) (oi := { dst := some 63, op := Op.call { callee := Callee.builtin Builtin.len, args := #[Operand.tmp 62], argTypes := #[9] }, type := 3, pos := "instr.go:64", after := #[{ on := 5, ground := Ground.data }, { on := 1, ground := Ground.guard }], guard := some (1, true) }) (v := ?v7x5) rfl (by kernel_rfl) (by kernel_rfl) (by kernel_rfl) (fun _ _ _ h => h) (Or.inl ⟨by rfl, ?y7x5⟩) hn ?r7x5
            case y7x5 => (intro wS hS; (try go_simp); (try with_reducible rfl))
            try simp only [Act.put, List.setIfInBounds_toArray, List.set_cons_zero, List.set_cons_succ]
            refine wpAnyH_ready (rs := [7]) (by kernel_rfl) (by simp) ?_
            refine AllReadyH.cons (o := { dst := some 64, op := Op.call { callee := Callee.value (Operand.func 54), args := #[Operand.tmp 60, Operand.tmp 63], argTypes := #[127, 3] }, type := 4, pos := "instr.go:64", after := #[{ on := 3, ground := Ground.data }, { on := 6, ground := Ground.data }, { on := 3, ground := Ground.chain }, { on := 1, ground := Ground.guard }], guard := some (1, true) }) rfl (fun K hK => ?_) AllReadyH.nil
            go_simp
            refine (HH2.out _).mono ?_
            rintro e wr ⟨rfl, hnq⟩
            go_wp2_with fail
            have hbx := hp1 hbx hnq
            have hn : (fun w' => New w w' ∧ w'.heap[wa.heap.size]? = some (.cells #[.int .i64 11, .int .i64 ln] 123)) wr := ⟨New.trans hn.1 hnq, hp1 hn.2 hnq⟩
            refine hK.out _ _ (by first | exact hn | exact Upd.alloc hn _) (fun hn => ?_)
            clear hK K
            try simp only [Act.put, List.setIfInBounds_toArray, List.set_cons_zero, List.set_cons_succ]
            refine wpAnyH_take (i := 8) (oi := { dst := some 65, op := Op.pick (Operand.tmp 58) (Operand.tmp 64) (Operand.const (Value.bool false)), type := 4, pos := "instr.go:64", after := #[{ on := 1, ground := Ground.data }, { on := 7, ground := Ground.data }], guard := none }) (v := ?v7x6) rfl (by kernel_rfl) (by kernel_rfl) (by kernel_rfl) (fun _ _ _ h => h) (Or.inl ⟨by rfl, ?y7x6⟩) hn ?r7x6
            case y7x6 => (intro wS hS; (try go_simp); (try with_reducible rfl))
            try simp only [Act.put, List.setIfInBounds_toArray, List.set_cons_zero, List.set_cons_succ]
            refine wpAnyH_take (i := 9) (oi := { dst := some 66, op := Op.move (Operand.tmp 65), type := 4, pos := "instr.go:64", after := #[{ on := 8, ground := Ground.data }, { on := 7, ground := Ground.chain }], guard := none }) (v := ?v7x7) rfl (by kernel_rfl) (by kernel_rfl) (by kernel_rfl) (fun _ _ _ h => h) (Or.inl ⟨by rfl, ?y7x7⟩) hn ?r7x7
            case y7x7 => (intro wS hS; (try go_simp); (try with_reducible rfl))
            try simp only [Act.put, List.setIfInBounds_toArray, List.set_cons_zero, List.set_cons_succ]
            refine wpAnyH_take (i := 10) (oi := { dst := some 67, op := Op.fieldAddr 123 (Operand.tmp 3) 0, type := 0, pos := "instr.go:64", after := #[{ on := 9, ground := Ground.guard }], guard := some (9, true) }) (v := undef) rfl (by kernel_rfl) (by kernel_rfl) (by kernel_rfl) (fun _ _ _ h => h) (Or.inr ⟨by rfl, rfl⟩) hn ?_
            try simp only [Act.put, List.setIfInBounds_toArray, List.set_cons_zero, List.set_cons_succ]
            refine wpAnyH_take (i := 11) (oi := { dst := some 68, op := Op.load 3 (Operand.tmp 67), type := 3, pos := "instr.go:64", after := #[{ on := 10, ground := Ground.data }, { on := 9, ground := Ground.guard }], guard := some (9, true) }) (v := undef) rfl (by kernel_rfl) (by kernel_rfl) (by kernel_rfl) (fun _ _ _ h => h) (Or.inr ⟨by rfl, rfl⟩) hn ?_
            try simp only [Act.put, List.setIfInBounds_toArray, List.set_cons_zero, List.set_cons_succ]
            refine wpAnyH_take (i := 12) (oi := { dst := some 69, op := Op.binOp BinOp.neq 3 (Operand.tmp 68) (Operand.const (Value.int IntKind.i64 14)) 3, type := 4, pos := "instr.go:64", after := #[{ on := 11, ground := Ground.data }, { on := 9, ground := Ground.guard }], guard := some (9, true) }) (v := undef) rfl (by kernel_rfl) (by kernel_rfl) (by kernel_rfl) (fun _ _ _ h => h) (Or.inr ⟨by rfl, rfl⟩) hn ?_
            try simp only [Act.put, List.setIfInBounds_toArray, List.set_cons_zero, List.set_cons_succ]
            refine wpAnyH_take (i := 13) (oi := { dst := some 70, op := Op.move (Operand.tmp 69), type := 4, pos := "instr.go:64", after := #[{ on := 12, ground := Ground.data }, { on := 9, ground := Ground.chain }, { on := 9, ground := Ground.guard }], guard := some (9, true) }) (v := undef) rfl (by kernel_rfl) (by kernel_rfl) (by kernel_rfl) (fun _ _ _ h => h) (Or.inr ⟨by rfl, rfl⟩) hn ?_
            try simp only [Act.put, List.setIfInBounds_toArray, List.set_cons_zero, List.set_cons_succ]
            refine wpAnyH_take (i := 14) (oi := { dst := some 71, op := Op.fieldAddr 93 (Operand.tmp 1) 6, type := 0, pos := "instr.go:64", after := #[{ on := 13, ground := Ground.guard }], guard := some (13, false) }) (v := undef) rfl (by kernel_rfl) (by kernel_rfl) (by kernel_rfl) (fun _ _ _ h => h) (Or.inr ⟨by rfl, rfl⟩) hn ?_
            try simp only [Act.put, List.setIfInBounds_toArray, List.set_cons_zero, List.set_cons_succ]
            refine wpAnyH_take (i := 15) (oi := { dst := some 72, op := Op.load 9 (Operand.tmp 71), type := 9, pos := "instr.go:64", after := #[{ on := 14, ground := Ground.data }, { on := 13, ground := Ground.guard }], guard := some (13, false) }) (v := undef) rfl (by kernel_rfl) (by kernel_rfl) (by kernel_rfl) (fun _ _ _ h => h) (Or.inr ⟨by rfl, rfl⟩) hn ?_
            try simp only [Act.put, List.setIfInBounds_toArray, List.set_cons_zero, List.set_cons_succ]
            refine wpAnyH_take (i := 16) (oi := { dst := some 73, op := Op.call { callee := Callee.value (Operand.func 55), args := #[Operand.tmp 72], argTypes := #[9] }, type := 4, pos := "instr.go:64", after := #[{ on := 15, ground := Ground.data }, { on := 13, ground := Ground.chain }, { on := 13, ground := Ground.guard }], guard := some (13, false) }) (v := undef) rfl (by kernel_rfl) (by kernel_rfl) (by kernel_rfl) (fun _ _ _ h => h) (Or.inr ⟨by rfl, rfl⟩) hn ?_
            try simp only [Act.put, List.setIfInBounds_toArray, List.set_cons_zero, List.set_cons_succ]
            refine wpAnyH_take (i := 17) (oi := { dst := some 74, op := Op.pick (Operand.tmp 70) (Operand.const (Value.bool true)) (Operand.tmp 73), type := 4, pos := "instr.go:64", after := #[{ on := 13, ground := Ground.data }, { on := 16, ground := Ground.data }, { on := 9, ground := Ground.guard }], guard := some (9, true) }) (v := undef) rfl (by kernel_rfl) (by kernel_rfl) (by kernel_rfl) (fun _ _ _ h => h) (Or.inr ⟨by rfl, rfl⟩) hn ?_
            try simp only [Act.put, List.setIfInBounds_toArray, List.set_cons_zero, List.set_cons_succ]
            refine wpAnyH_take (i := 18) (oi := { dst := some 75, op := Op.pick (Operand.tmp 66) (Operand.tmp 74) (Operand.const (Value.bool false)), type := 4, pos := "instr.go:64", after := #[{ on := 9, ground := Ground.data }, { on := 17, ground := Ground.data }], guard := none }) (v := ?v7x16) rfl (by kernel_rfl) (by kernel_rfl) (by kernel_rfl) (fun _ _ _ h => h) (Or.inl ⟨by rfl, ?y7x16⟩) hn ?r7x16
            case y7x16 => (intro wS hS; (try go_simp); (try with_reducible rfl))
            try simp only [Act.put, List.setIfInBounds_toArray, List.set_cons_zero, List.set_cons_succ]
            refine wpAnyH_take (i := 19) (oi := { dst := some 4, op := Op.assign (Operand.tmp 75), type := 4, pos := "instr.go:64", after := #[{ on := 18, ground := Ground.data }, { on := 16, ground := Ground.chain }, { on := 0, ground := Ground.phase }, { on := 1, ground := Ground.phase }, { on := 2, ground := Ground.phase }, { on := 3, ground := Ground.phase }, { on := 4, ground := Ground.phase }, { on := 5, ground := Ground.phase }, { on := 6, ground := Ground.phase }, { on := 7, ground := Ground.phase }, { on := 8, ground := Ground.phase }, { on := 9, ground := Ground.phase }, { on := 10, ground := Ground.phase }, { on := 11, ground := Ground.phase }, { on := 12, ground := Ground.phase }, { on := 13, ground := Ground.phase }, { on := 14, ground := Ground.phase }, { on := 15, ground := Ground.phase }, { on := 16, ground := Ground.phase }, { on := 17, ground := Ground.phase }, { on := 18, ground := Ground.phase }], guard := none }) (v := ?v7x17) rfl (by kernel_rfl) (by kernel_rfl) (by kernel_rfl) (fun _ _ _ h => h) (Or.inl ⟨by rfl, ?y7x17⟩) hn ?r7x17
            case y7x17 => (intro wS hS; (try go_simp); (try with_reducible rfl))
            try simp only [Act.put, List.setIfInBounds_toArray, List.set_cons_zero, List.set_cons_succ]
            refine wpAnyH_take (i := 20) (oi := { dst := some 76, op := Op.fieldAddr 93 (Operand.tmp 1) 6, type := 0, pos := "instr.go:64", after := #[{ on := 0, ground := Ground.phase }, { on := 1, ground := Ground.phase }, { on := 2, ground := Ground.phase }, { on := 3, ground := Ground.phase }, { on := 4, ground := Ground.phase }, { on := 5, ground := Ground.phase }, { on := 6, ground := Ground.phase }, { on := 7, ground := Ground.phase }, { on := 8, ground := Ground.phase }, { on := 9, ground := Ground.phase }, { on := 10, ground := Ground.phase }, { on := 11, ground := Ground.phase }, { on := 12, ground := Ground.phase }, { on := 13, ground := Ground.phase }, { on := 14, ground := Ground.phase }, { on := 15, ground := Ground.phase }, { on := 16, ground := Ground.phase }, { on := 17, ground := Ground.phase }, { on := 18, ground := Ground.phase }, { on := 19, ground := Ground.phase }], guard := none }) (v := ?v7x18) rfl (by kernel_rfl) (by kernel_rfl) (by kernel_rfl) (fun _ _ _ h => h) (Or.inl ⟨by rfl, ?y7x18⟩) hn ?r7x18
            case y7x18 => (intro wS hS; (try go_simp); (try with_reducible rfl))
            try simp only [Act.put, List.setIfInBounds_toArray, List.set_cons_zero, List.set_cons_succ]
            refine wpAnyH_ready (rs := [21]) (by kernel_rfl) (by simp) ?_
            refine AllReadyH.cons (o := { dst := none, op := Op.store 9 (Operand.tmp 76) (Operand.const (Value.string { data := #[] })), type := 0, pos := "instr.go:64", after := #[{ on := 20, ground := Ground.data }, { on := 19, ground := Ground.chain }, { on := 0, ground := Ground.phase }, { on := 1, ground := Ground.phase }, { on := 2, ground := Ground.phase }, { on := 3, ground := Ground.phase }, { on := 4, ground := Ground.phase }, { on := 5, ground := Ground.phase }, { on := 6, ground := Ground.phase }, { on := 7, ground := Ground.phase }, { on := 8, ground := Ground.phase }, { on := 9, ground := Ground.phase }, { on := 10, ground := Ground.phase }, { on := 11, ground := Ground.phase }, { on := 12, ground := Ground.phase }, { on := 13, ground := Ground.phase }, { on := 14, ground := Ground.phase }, { on := 15, ground := Ground.phase }, { on := 16, ground := Ground.phase }, { on := 17, ground := Ground.phase }, { on := 18, ground := Ground.phase }, { on := 19, ground := Ground.phase }], guard := none }) rfl (fun K hK => ?_) AllReadyH.nil
            have z9 := cellAt hbx 9 (v := .string raw) rfl
            have f9 := frozenAt hbx 9
            go_simp
            have hbx := hp_set hbx 9 (.string ⟨#[]⟩)
            have hn : (fun w' => New w w' ∧ w'.heap[wa.heap.size]? = some (.cells #[.int .i64 11, .int .i64 ln] 123)) (wr.setCell ⟨w.heap.size, 9, none⟩ (.string ⟨#[]⟩)) := ⟨setNew hn.1 9 _, hp_other hn.2 HNE.out⟩
            refine hK.out _ _ (by first | exact hn | exact Upd.alloc hn _) (fun hn => ?_)
            clear hK K
            try simp only [Act.put, List.setIfInBounds_toArray, List.set_cons_zero, List.set_cons_succ]
            refine wpAnyH_done (by kernel_rfl) ?_ _
            refine NoPanic.normal ?_
            go_wp2_with fail
            go_meet
            exact ⟨_, (.slice al li.length cl), (.slice au (lb ty).length cu), rfl, (by have h := has_ne HBH.out; simp [ownQ, h]), hbx, hn.1, HL.out.new hn.1, HU.out.new hn.1⟩
          refine AllReadyH.cons (o := { dst := some 62, op := Op.load 9 (Operand.tmp 61), type := 9, pos := "instr.go:64", after := #[{ on := 4, ground := Ground.data }, { on := 1, ground := Ground.guard }], guard := some (1, true) }) rfl (fun K hK => ?_) AllReadyH.nil
          have z9 := cellAt hbx 9 (v := .string raw) rfl
          go_simp
          refine hK.out _ _ (by first | exact hn | exact Upd.alloc hn _) (fun hn => ?_)
          clear hK K
          try simp only [Act.put, List.setIfInBounds_toArray, List.set_cons_zero, List.set_cons_succ]
          refine wpAnyH_take (i := 6) (oi := { dst := some 63, op := Op.call { callee := Callee.builtin Builtin.len, args := #[Operand.tmp 62], argTypes := #[9] }, type := 3, pos := "instr.go:64", after := #[{ on := 5, ground := Ground.data }, { on := 1, ground := Ground.guard }], guard := some (1, true) }) (v := ?v7x19) rfl (by kernel_rfl) (by kernel_rfl) (by kernel_rfl) (fun _ _ _ h => h) (Or.inl ⟨by rfl, ?y7x19⟩) hn ?r7x19
          case y7x19 => (intro wS hS; (try go_simp); (try with_reducible rfl))
          try simp only [Act.put, List.setIfInBounds_toArray, List.set_cons_zero, List.set_cons_succ]
          refine wpAnyH_ready (rs := [3]) (by kernel_rfl) (by simp) ?_
          refine AllReadyH.cons (o := { dst := some 60, op := Op.call { callee := Callee.value (Operand.func 53), args := #[Operand.tmp 59], argTypes := #[123] }, type := 127, pos := "instr.go:64", after := #[{ on := 2, ground := Ground.data }, { on := 1, ground := Ground.chain }, { on := 1, ground := Ground.guard }], guard := some (1, true) }) rfl (fun K hK => ?_) AllReadyH.nil
          go_simp
          refine (HS2.out _ _).mono ?_
          rintro e wq ⟨rfl, hnq⟩
          go_wp2_with fail
          have hbx := hp1 hbx hnq
          have hn : (fun w' => New w w' ∧ w'.heap[wa.heap.size]? = some (.cells #[.int .i64 11, .int .i64 ln] 123)) wq := ⟨New.trans hn.1 hnq, hp1 hn.2 hnq⟩
          refine hK.out _ _ (by first | exact hn | exact Upd.alloc hn _) (fun hn => ?_)
          clear hK K
          try simp only [Act.put, List.setIfInBounds_toArray, List.set_cons_zero, List.set_cons_succ]
          refine wpAnyH_ready (rs := [7]) (by kernel_rfl) (by simp) ?_
          refine AllReadyH.cons (o := { dst := some 64, op := Op.call { callee := Callee.value (Operand.func 54), args := #[Operand.tmp 60, Operand.tmp 63], argTypes := #[127, 3] }, type := 4, pos := "instr.go:64", after := #[{ on := 3, ground := Ground.data }, { on := 6, ground := Ground.data }, { on := 3, ground := Ground.chain }, { on := 1, ground := Ground.guard }], guard := some (1, true) }) rfl (fun K hK => ?_) AllReadyH.nil
          go_simp
          refine (HH2.out _).mono ?_
          rintro e wr ⟨rfl, hnq⟩
          go_wp2_with fail
          have hbx := hp1 hbx hnq
          have hn : (fun w' => New w w' ∧ w'.heap[wa.heap.size]? = some (.cells #[.int .i64 11, .int .i64 ln] 123)) wr := ⟨New.trans hn.1 hnq, hp1 hn.2 hnq⟩
          refine hK.out _ _ (by first | exact hn | exact Upd.alloc hn _) (fun hn => ?_)
          clear hK K
          try simp only [Act.put, List.setIfInBounds_toArray, List.set_cons_zero, List.set_cons_succ]
          refine wpAnyH_take (i := 8) (oi := { dst := some 65, op := Op.pick (Operand.tmp 58) (Operand.tmp 64) (Operand.const (Value.bool false)), type := 4, pos := "instr.go:64", after := #[{ on := 1, ground := Ground.data }, { on := 7, ground := Ground.data }], guard := none }) (v := ?v7x20) rfl (by kernel_rfl) (by kernel_rfl) (by kernel_rfl) (fun _ _ _ h => h) (Or.inl ⟨by rfl, ?y7x20⟩) hn ?r7x20
          case y7x20 => (intro wS hS; (try go_simp); (try with_reducible rfl))
          try simp only [Act.put, List.setIfInBounds_toArray, List.set_cons_zero, List.set_cons_succ]
          refine wpAnyH_take (i := 9) (oi := { dst := some 66, op := Op.move (Operand.tmp 65), type := 4, pos := "instr.go:64", after := #[{ on := 8, ground := Ground.data }, { on := 7, ground := Ground.chain }], guard := none }) (v := ?v7x21) rfl (by kernel_rfl) (by kernel_rfl) (by kernel_rfl) (fun _ _ _ h => h) (Or.inl ⟨by rfl, ?y7x21⟩) hn ?r7x21
          case y7x21 => (intro wS hS; (try go_simp); (try with_reducible rfl))
          try simp only [Act.put, List.setIfInBounds_toArray, List.set_cons_zero, List.set_cons_succ]
          refine wpAnyH_take (i := 10) (oi := { dst := some 67, op := Op.fieldAddr 123 (Operand.tmp 3) 0, type := 0, pos := "instr.go:64", after := #[{ on := 9, ground := Ground.guard }], guard := some (9, true) }) (v := undef) rfl (by kernel_rfl) (by kernel_rfl) (by kernel_rfl) (fun _ _ _ h => h) (Or.inr ⟨by rfl, rfl⟩) hn ?_
          try simp only [Act.put, List.setIfInBounds_toArray, List.set_cons_zero, List.set_cons_succ]
          refine wpAnyH_take (i := 11) (oi := { dst := some 68, op := Op.load 3 (Operand.tmp 67), type := 3, pos := "instr.go:64", after := #[{ on := 10, ground := Ground.data }, { on := 9, ground := Ground.guard }], guard := some (9, true) }) (v := undef) rfl (by kernel_rfl) (by kernel_rfl) (by kernel_rfl) (fun _ _ _ h => h) (Or.inr ⟨by rfl, rfl⟩) hn ?_
          try simp only [Act.put, List.setIfInBounds_toArray, List.set_cons_zero, List.set_cons_succ]
          refine wpAnyH_take (i := 12) (oi := { dst := some 69, op := Op.binOp BinOp.neq 3 (Operand.tmp 68) (Operand.const (Value.int IntKind.i64 14)) 3, type := 4, pos := "instr.go:64", after := #[{ on := 11, ground := Ground.data }, { on := 9, ground := Ground.guard }], guard := some (9, true) }) (v := undef) rfl (by kernel_rfl) (by kernel_rfl) (by kernel_rfl) (fun _ _ _ h => h) (Or.inr ⟨by rfl, rfl⟩) hn ?_
          try simp only [Act.put, List.setIfInBounds_toArray, List.set_cons_zero, List.set_cons_succ]
          refine wpAnyH_take (i := 13) (oi := { dst := some 70, op := Op.move (Operand.tmp 69), type := 4, pos := "instr.go:64", after := #[{ on := 12, ground := Ground.data }, { on := 9, ground := Ground.chain }, { on := 9, ground := Ground.guard }], guard := some (9, true) }) (v := undef) rfl (by kernel_rfl) (by kernel_rfl) (by kernel_rfl) (fun _ _ _ h => h) (Or.inr ⟨by rfl, rfl⟩) hn ?_
          try simp only [Act.put, List.setIfInBounds_toArray, List.set_cons_zero, List.set_cons_succ]
          refine wpAnyH_take (i := 14) (oi := { dst := some 71, op := Op.fieldAddr 93 (Operand.tmp 1) 6, type := 0, pos := "instr.go:64", after := #[{ on := 13, ground := Ground.guard }], guard := some (13, false) }) (v := undef) rfl (by kernel_rfl) (by kernel_rfl) (by kernel_rfl) (fun _ _ _ h => h) (Or.inr ⟨by rfl, rfl⟩) hn ?_
          try simp only [Act.put, List.setIfInBounds_toArray, List.set_cons_zero, List.set_cons_succ]
          refine wpAnyH_take (i := 15) (oi := { dst := some 72, op := Op.load 9 (Operand.tmp 71), type := 9, pos := "instr.go:64", after := #[{ on := 14, ground := Ground.data }, { on := 13, ground := Ground.guard }], guard := some (13, false) }) (v := undef) rfl (by kernel_rfl) (by kernel_rfl) (by kernel_rfl) (fun _ _ _ h => h) (Or.inr ⟨by rfl, rfl⟩) hn ?_
          try simp only [Act.put, List.setIfInBounds_toArray, List.set_cons_zero, List.set_cons_succ]
          refine wpAnyH_take (i := 16) (oi := { dst := some 73, op := Op.call { callee := Callee.value (Operand.func 55), args := #[Operand.tmp 72], argTypes := #[9] }, type := 4, pos := "instr.go:64", after := #[{ on := 15, ground := Ground.data }, { on := 13, ground := Ground.chain }, { on := 13, ground := Ground.guard }], guard := some (13, false) }) (v := undef) rfl (by kernel_rfl) (by kernel_rfl) (by kernel_rfl) (fun _ _ _ h => h) (Or.inr ⟨by rfl, rfl⟩) hn ?_
          try simp only [Act.put, List.setIfInBounds_toArray, List.set_cons_zero, List.set_cons_succ]
          refine wpAnyH_take (i := 17) (oi := { dst := some 74, op := Op.pick (Operand.tmp 70) (Operand.const (Value.bool true)) (Operand.tmp 73), type := 4, pos := "instr.go:64", after := #[{ on := 13, ground := Ground.data }, { on := 16, ground := Ground.data }, { on := 9, ground := Ground.guard }], guard := some (9, true) }) (v := undef) rfl (by kernel_rfl) (by kernel_rfl) (by kernel_rfl) (fun _ _ _ h => h) (Or.inr ⟨by rfl, rfl⟩) hn ?_
          try simp only [Act.put, List.setIfInBounds_toArray, List.set_cons_zero, List.set_cons_succ]
          refine wpAnyH_take (i := 18) (oi := { dst := some 75, op := Op.pick (Operand.tmp 66) (Operand.tmp 74) (Operand.const (Value.bool false)), type := 4, pos := "instr.go:64", after := #[{ on := 9, ground := Ground.data }, { on := 17, ground := Ground.data }], guard := none }) (v := ?v7x30) rfl (by kernel_rfl) (by kernel_rfl) (by kernel_rfl) (fun _ _ _ h => h) (Or.inl ⟨by rfl, ?y7x30⟩) hn ?r7x30
          case y7x30 => (intro wS hS; (try go_simp); (try with_reducible rfl))
          try simp only [Act.put, List.setIfInBounds_toArray, List.set_cons_zero, List.set_cons_succ]
          refine wpAnyH_take (i := 19) (oi := { dst := some 4, op := Op.assign (Operand.tmp 75), type := 4, pos := "instr.go:64", after := #[{ on := 18, ground := Ground.data }, { on := 16, ground := Ground.chain }, { on := 0, ground := Ground.phase }, { on := 1, ground := Ground.phase }, { on := 2, ground := Ground.phase }, { on := 3, ground := Ground.phase }, { on := 4, ground := Ground.phase }, { on := 5, ground := Ground.phase }, { on := 6, ground := Ground.phase }, { on := 7, ground := Ground.phase }, { on := 8, ground := Ground.phase }, { on := 9, ground := Ground.phase }, { on := 10, ground := Ground.phase }, { on := 11, ground := Ground.phase }, { on := 12, ground := Ground.phase }, { on := 13, ground := Ground.phase }, { on := 14, ground := Ground.phase }, { on := 15, ground := Ground.phase }, { on := 16, ground := Ground.phase }, { on := 17, ground := Ground.phase }, { on := 18, ground := Ground.phase }], guard := none }) (v := ?v7x31) rfl (by kernel_rfl) (by kernel_rfl) (by kernel_rfl) (fun _ _ _ h => h) (Or.inl ⟨by rfl, ?y7x31⟩) hn ?r7x31
          case y7x31 => (intro wS hS; (try go_simp); (try with_reducible rfl))
          try simp only [Act.put, List.setIfInBounds_toArray, List.set_cons_zero, List.set_cons_succ]
          refine wpAnyH_take (i := 20) (oi := { dst := some 76, op := Op.fieldAddr 93 (Operand.tmp 1) 6, type := 0, pos := "instr.go:64", after := #[{ on := 0, ground := Ground.phase }, { on := 1, ground := Ground.phase }, { on := 2, ground := Ground.phase }, { on := 3, ground := Ground.phase }, { on := 4, ground := Ground.phase }, { on := 5, ground := Ground.phase }, { on := 6, ground := Ground.phase }, { on := 7, ground := Ground.phase }, { on := 8, ground := Ground.phase }, { on := 9, ground := Ground.phase }, { on := 10, ground := Ground.phase }, { on := 11, ground := Ground.phase }, { on := 12, ground := Ground.phase }, { on := 13, ground := Ground.phase }, { on := 14, ground := Ground.phase }, { on := 15, ground := Ground.phase }, { on := 16, ground := Ground.phase }, { on := 17, ground := Ground.phase }, { on := 18, ground := Ground.phase }, { on := 19, ground := Ground.phase }], guard := none }) (v := ?v7x32) rfl (by kernel_rfl) (by kernel_rfl) (by kernel_rfl) (fun _ _ _ h => h) (Or.inl ⟨by rfl, ?y7x32⟩) hn ?r7x32
          case y7x32 => (intro wS hS; (try go_simp); (try with_reducible rfl))
          try simp only [Act.put, List.setIfInBounds_toArray, List.set_cons_zero, List.set_cons_succ]
          refine wpAnyH_ready (rs := [21]) (by kernel_rfl) (by simp) ?_
          refine AllReadyH.cons (o := { dst := none, op := Op.store 9 (Operand.tmp 76) (Operand.const (Value.string { data := #[] })), type := 0, pos := "instr.go:64", after := #[{ on := 20, ground := Ground.data }, { on := 19, ground := Ground.chain }, { on := 0, ground := Ground.phase }, { on := 1, ground := Ground.phase }, { on := 2, ground := Ground.phase }, { on := 3, ground := Ground.phase }, { on := 4, ground := Ground.phase }, { on := 5, ground := Ground.phase }, { on := 6, ground := Ground.phase }, { on := 7, ground := Ground.phase }, { on := 8, ground := Ground.phase }, { on := 9, ground := Ground.phase }, { on := 10, ground := Ground.phase }, { on := 11, ground := Ground.phase }, { on := 12, ground := Ground.phase }, { on := 13, ground := Ground.phase }, { on := 14, ground := Ground.phase }, { on := 15, ground := Ground.phase }, { on := 16, ground := Ground.phase }, { on := 17, ground := Ground.phase }, { on := 18, ground := Ground.phase }, { on := 19, ground := Ground.phase }], guard := none }) rfl (fun K hK => ?_) AllReadyH.nil
          have z9 := cellAt hbx 9 (v := .string raw) rfl
          have f9 := frozenAt hbx 9
          go_simp
          have hbx := hp_set hbx 9 (.string ⟨#[]⟩)
          have hn : (fun w' => New w w' ∧ w'.heap[wa.heap.size]? = some (.cells #[.int .i64 11, .int .i64 ln] 123)) (wr.setCell ⟨w.heap.size, 9, none⟩ (.string ⟨#[]⟩)) := ⟨setNew hn.1 9 _, hp_other hn.2 HNE.out⟩
          refine hK.out _ _ (by first | exact hn | exact Upd.alloc hn _) (fun hn => ?_)
          clear hK K
          try simp only [Act.put, List.setIfInBounds_toArray, List.set_cons_zero, List.set_cons_succ]
          refine wpAnyH_done (by kernel_rfl) ?_ _
          refine NoPanic.normal ?_
          go_wp2_with fail
          go_meet
          exact ⟨_, (.slice al li.length cl), (.slice au (lb ty).length cu), rfl, (by have h := has_ne HBH.out; simp [ownQ, h]), hbx, hn.1, HL.out.new hn.1, HU.out.new hn.1⟩
      · -- 12
        have HS2 := hid (fun l w => HSP.out 12 l w)
        rw [spanV_12] at HS2
        have HH2 := hid (fun w => HHA.out 8 8 raw.size w)
        obtain ⟨bh, hbh⟩ : ∃ bh, Span.has 8 8 raw.size = bh := ⟨_, rfl⟩
        rw [hbh] at HH2
        have y0 : wb.cell? ⟨wa.heap.size, 0, none⟩ = some (.int .i64 12) := cellAt HI.out 0 rfl
        have y1 : wb.cell? ⟨wa.heap.size, 1, none⟩ = some (.int .i64 ln) := cellAt HI.out 1 rfl
        have z9 : wb.cell? ⟨w.heap.size, 9, none⟩ = some (.string raw) := cellAt HB.out 9 rfl
        have f9 : wb.frozen? ⟨w.heap.size, 9, none⟩ = false := frozenAt HB.out 9
        have HBH := hid hbh
        clear hbh
        cases bh with
        | true =>
          have hn : (fun w' => New w w' ∧ w'.heap[wa.heap.size]? = some (.cells #[.int .i64 12, .int .i64 ln] 123)) wb.drew := ⟨HN.out.drew, HI.out⟩
          have hbx : Box wb.drew w.heap.size ⟨p, c, k, t, i, x, y, li, n, raw, lane, ty⟩ (.slice al li.length cl) (.slice au (lb ty).length cu) := HB.out
          clear y0 y1 z9 f9
          go_wp2_with fail
          refine wp_region_noPanic ?_
          refine wp_region_held_drew (S := (fun w' => New w w' ∧ w'.heap[wa.heap.size]? = some (.cells #[.int .i64 12, .int .i64 ln] 123))) (by kernel_rfl) (by first | exact hn | exact (Upd.refl _ _).drew | exact Upd.drew (by assumption)) (fun hn => ?_)
          generalize wb.drew = wd at *
          refine wpAnyH_take (i := 0) (oi := { dst := some 57, op := Op.move (Operand.tmp 4), type := 4, pos := "instr.go:64", after := #[], guard := none }) (v := ?v8x1) rfl (by kernel_rfl) (by kernel_rfl) (by kernel_rfl) (fun _ _ _ h => h) (Or.inl ⟨by rfl, ?y8x1⟩) hn ?r8x1
          case y8x1 => (intro wS hS; (try go_simp); (try with_reducible rfl))
          try simp only [Act.put, List.setIfInBounds_toArray, List.set_cons_zero, List.set_cons_succ]
          refine wpAnyH_take (i := 1) (oi := { dst := some 58, op := Op.move (Operand.tmp 57), type := 4, pos := "instr.go:64", after := #[{ on := 0, ground := Ground.data }], guard := none }) (v := ?v8x2) rfl (by kernel_rfl) (by kernel_rfl) (by kernel_rfl) (fun _ _ _ h => h) (Or.inl ⟨by rfl, ?y8x2⟩) hn ?r8x2
          case y8x2 => (intro wS hS; (try go_simp); (try with_reducible rfl))
          try simp only [Act.put, List.setIfInBounds_toArray, List.set_cons_zero, List.set_cons_succ]
          refine wpAnyH_take (i := 2) (oi := { dst := some 59, op := Op.load 123 (Operand.tmp 3), type := 123, pos := "instr.go:64", after := #[{ on := 1, ground := Ground.guard }], guard := some (1, true) }) (v := ?v8x3) rfl (by kernel_rfl) (by kernel_rfl) (by kernel_rfl) (fun _ _ _ h => h) (Or.inl ⟨by rfl, ?y8x3⟩) hn ?r8x3
          case y8x3 => (intro wS hS; have c0 := cellAt hS.2 0 rfl; have c1 := cellAt hS.2 1 rfl; (try go_simp); (try with_reducible rfl))
          try simp only [Act.put, List.setIfInBounds_toArray, List.set_cons_zero, List.set_cons_succ]
          refine wpAnyH_take (i := 4) (oi := { dst := some 61, op := Op.fieldAddr 93 (Operand.tmp 1) 6, type := 0, pos := "instr.go:64", after := #[{ on := 1, ground := Ground.guard }], guard := some (1, true) }) (v := ?v8x4) rfl (by kernel_rfl) (by kernel_rfl) (by kernel_rfl) (fun _ _ _ h => h) (Or.inl ⟨by rfl, ?y8x4⟩) hn ?r8x4
          case y8x4 => (intro wS hS; (try go_simp); (try with_reducible rfl))
          try simp only [Act.put, List.setIfInBounds_toArray, List.set_cons_zero, List.set_cons_succ]
          refine wpAnyH_ready (rs := [3, 5]) (by kernel_rfl) (by simp) ?_
          refine AllReadyH.cons (o := { dst := some 60, op := Op.call { callee := Callee.value (Operand.func 53), args := #[Operand.tmp 59], argTypes := #[123] }, type := 127, pos := "instr.go:64", after := #[{ on := 2, ground := Ground.data }, { on := 1, ground := Ground.chain }, { on := 1, ground := Ground.guard }], guard := some (1, true) }) rfl (fun K hK => ?_) ?_
          · skip
            go_simp
            refine (HS2.out _ _).mono ?_
            rintro e wq ⟨rfl, hnq⟩
            go_wp2_with fail
            have hbx := hp1 hbx hnq
            have hn : (fun w' => New w w' ∧ w'.heap[wa.heap.size]? = some (.cells #[.int .i64 12, .int .i64 ln] 123)) wq := ⟨New.trans hn.1 hnq, hp1 hn.2 hnq⟩
            refine hK.out _ _ (by first | exact hn | exact Upd.alloc hn _) (fun hn => ?_)
            clear hK K
            try simp only [Act.put, List.setIfInBounds_toArray, List.set_cons_zero, List.set_cons_succ]
            refine wpAnyH_ready (rs := [5]) (by kernel_rfl) (by simp) ?_
            refine AllReadyH.cons (o := { dst := some 62, op := Op.load 9 (Operand.tmp 61), type := 9, pos := "instr.go:64", after := #[{ on := 4, ground := Ground.data }, { on := 1, ground := Ground.guard }], guard := some (1, true) }) rfl (fun K hK => ?_) AllReadyH.nil
            have z9 := cellAt hbx 9 (v := .string raw) rfl
            go_simp
            refine hK.out _ _ (by first | exact hn | exact Upd.alloc hn _) (fun hn => ?_)
            clear hK K
            try simp only [Act.put, List.setIfInBounds_toArray, List.set_cons_zero, List.set_cons_succ]
            refine wpAnyH_take (i := 6) (oi := { dst := some 63, op := Op.call { callee := Callee.builtin Builtin.len, args := #[Operand.tmp 62], argTypes := #[9] }, type := 3, pos := "instr.go:64", after := #[{ on := 5, ground := Ground.data }, { on := 1, ground := Ground.guard }], guard := some (1, true) }) (v := ?v8x5) rfl (by kernel_rfl) (by kernel_rfl) (by kernel_rfl) (fun _ _ _ h => h) (Or.inl ⟨by rfl, ?y8x5⟩) hn ?r8x5
            case y8x5 => (intro wS hS; (try go_simp); (try with_reducible rfl))
            try simp only [Act.put, List.setIfInBounds_toArray, List.set_cons_zero, List.set_cons_succ]
            refine wpAnyH_ready (rs := [7]) (by kernel_rfl) (by simp) ?_
            refine AllReadyH.cons (o := { dst := some 64, op := Op.call { callee := Callee.value (Operand.func 54), args := #[Operand.tmp 60, Operand.tmp 63], argTypes := #[127, 3] }, type := 4, pos := "instr.go:64", after := #[{ on := 3, ground := Ground.data }, { on := 6, ground := Ground.data }, { on := 3, ground := Ground.chain }, { on := 1, ground := Ground.guard }], guard := some (1, true) }) rfl (fun K hK => ?_) AllReadyH.nil
            go_simp
            refine (HH2.out _).mono ?_
            rintro e wr ⟨rfl, hnq⟩
            go_wp2_with fail
            have hbx := hp1 hbx hnq
            have hn : (fun w' => New w w' ∧ w'.heap[wa.heap.size]? = some (.cells #[.int .i64 12, .int .i64 ln] 123)) wr := ⟨New.trans hn.1 hnq, hp1 hn.2 hnq⟩
            refine hK.out _ _ (by first | exact hn | exact Upd.alloc hn _) (fun hn => ?_)
            clear hK K
            try simp only [Act.put, List.setIfInBounds_toArray, List.set_cons_zero, List.set_cons_succ]
            refine wpAnyH_take (i := 8) (oi := { dst := some 65, op := Op.pick (Operand.tmp 58) (Operand.tmp 64) (Operand.const (Value.bool false)), type := 4, pos := "instr.go:64", after := #[{ on := 1, ground := Ground.data }, { on := 7, ground := Ground.data }], guard := none }) (v := ?v8x6) rfl (by kernel_rfl) (by kernel_rfl) (by kernel_rfl) (fun _ _ _ h => h) (Or.inl ⟨by rfl, ?y8x6⟩) hn ?r8x6
            case y8x6 => (intro wS hS; (try go_simp); (try with_reducible rfl))
            try simp only [Act.put, List.setIfInBounds_toArray, List.set_cons_zero, List.set_cons_succ]
            refine wpAnyH_take (i := 9) (oi := { dst := some 66, op := Op.move (Operand.tmp 65), type := 4, pos := "instr.go:64", after := #[{ on := 8, ground := Ground.data }, { on := 7, ground := Ground.chain }], guard := none }) (v := ?v8x7) rfl (by kernel_rfl) (by kernel_rfl) (by kernel_rfl) (fun _ _ _ h => h) (Or.inl ⟨by rfl, ?y8x7⟩) hn ?r8x7
            case y8x7 => (intro wS hS; (try go_simp); (try with_reducible rfl))
            try simp only [Act.put, List.setIfInBounds_toArray, List.set_cons_zero, List.set_cons_succ]
            refine wpAnyH_take (i := 10) (oi := { dst := some 67, op := Op.fieldAddr 123 (Operand.tmp 3) 0, type := 0, pos := "instr.go:64", after := #[{ on := 9, ground := Ground.guard }], guard := some (9, true) }) (v := ?v8x8) rfl (by kernel_rfl) (by kernel_rfl) (by kernel_rfl) (fun _ _ _ h => h) (Or.inl ⟨by rfl, ?y8x8⟩) hn ?r8x8
            case y8x8 => (intro wS hS; (try go_simp); (try with_reducible rfl))
            try simp only [Act.put, List.setIfInBounds_toArray, List.set_cons_zero, List.set_cons_succ]
            refine wpAnyH_take (i := 11) (oi := { dst := some 68, op := Op.load 3 (Operand.tmp 67), type := 3, pos := "instr.go:64", after := #[{ on := 10, ground := Ground.data }, { on := 9, ground := Ground.guard }], guard := some (9, true) }) (v := ?v8x9) rfl (by kernel_rfl) (by kernel_rfl) (by kernel_rfl) (fun _ _ _ h => h) (Or.inl ⟨by rfl, ?y8x9⟩) hn ?r8x9
            case y8x9 => (intro wS hS; have c0 := cellAt hS.2 0 rfl; (try go_simp); (try with_reducible rfl))
            try simp only [Act.put, List.setIfInBounds_toArray, List.set_cons_zero, List.set_cons_succ]
            refine wpAnyH_take (i := 12) (oi := { dst := some 69, op := Op.binOp BinOp.neq 3 (Operand.tmp 68) (Operand.const (Value.int IntKind.i64 14)) 3, type := 4, pos := "instr.go:64", after := #[{ on := 11, ground := Ground.data }, { on := 9, ground := Ground.guard }], guard := some (9, true) }) (v := ?v8x10) rfl (by kernel_rfl) (by kernel_rfl) (by kernel_rfl) (fun _ _ _ h => h) (Or.inl ⟨by rfl, ?y8x10⟩) hn ?r8x10
            case y8x10 => (intro wS hS; (try go_simp); (try with_reducible rfl))
            try simp only [Act.put, List.setIfInBounds_toArray, List.set_cons_zero, List.set_cons_succ]
            refine wpAnyH_take (i := 13) (oi := { dst := some 70, op := Op.move (Operand.tmp 69), type := 4, pos := "instr.go:64", after := #[{ on := 12, ground := Ground.data }, { on := 9, ground := Ground.chain }, { on := 9, ground := Ground.guard }], guard := some (9, true) }) (v := ?v8x11) rfl (by kernel_rfl) (by kernel_rfl) (by kernel_rfl) (fun _ _ _ h => h) (Or.inl ⟨by rfl, ?y8x11⟩) hn ?r8x11
            case y8x11 => (intro wS hS; (try go_simp); (try with_reducible rfl))
            try simp only [Act.put, List.setIfInBounds_toArray, List.set_cons_zero, List.set_cons_succ]
            refine wpAnyH_take (i := 14) (oi := { dst := some 71, op := Op.fieldAddr 93 (Operand.tmp 1) 6, type := 0, pos := "instr.go:64", after := #[{ on := 13, ground := Ground.guard }], guard := some (13, false) }) (v := undef) rfl (by kernel_rfl) (by kernel_rfl) (by kernel_rfl) (fun _ _ _ h => h) (Or.inr ⟨by rfl, rfl⟩) hn ?_
            try simp only [Act.put, List.setIfInBounds_toArray, List.set_cons_zero, List.set_cons_succ]
            refine wpAnyH_take (i := 15) (oi := { dst := some 72, op := Op.load 9 (Operand.tmp 71), type := 9, pos := "instr.go:64", after := #[{ on := 14, ground := Ground.data }, { on := 13, ground := Ground.guard }], guard := some (13, false) }) (v := undef) rfl (by kernel_rfl) (by kernel_rfl) (by kernel_rfl) (fun _ _ _ h => h) (Or.inr ⟨by rfl, rfl⟩) hn ?_
            try simp only [Act.put, List.setIfInBounds_toArray, List.set_cons_zero, List.set_cons_succ]
            refine wpAnyH_take (i := 16) (oi := { dst := some 73, op := Op.call { callee := Callee.value (Operand.func 55), args := #[Operand.tmp 72], argTypes := #[9] }, type := 4, pos := "instr.go:64", after := #[{ on := 15, ground := Ground.data }, { on := 13, ground := Ground.chain }, { on := 13, ground := Ground.guard }], guard := some (13, false) }) (v := undef) rfl (by kernel_rfl) (by kernel_rfl) (by kernel_rfl) (fun _ _ _ h => h) (Or.inr ⟨by rfl, rfl⟩) hn ?_
            try simp only [Act.put, List.setIfInBounds_toArray, List.set_cons_zero, List.set_cons_succ]
            refine wpAnyH_take (i := 17) (oi := { dst := some 74, op := Op.pick (Operand.tmp 70) (Operand.const (Value.bool true)) (Operand.tmp 73), type := 4, pos := "instr.go:64", after := #[{ on := 13, ground := Ground.data }, { on := 16, ground := Ground.data }, { on := 9, ground := Ground.guard }], guard := some (9, true) }) (v := ?v8x15) rfl (by kernel_rfl) (by kernel_rfl) (by kernel_rfl) (fun _ _ _ h => h) (Or.inl ⟨by rfl, ?y8x15⟩) hn ?r8x15
            case y8x15 => (intro wS hS; (try go_simp); (try with_reducible rfl))
            try simp only [Act.put, List.setIfInBounds_toArray, List.set_cons_zero, List.set_cons_succ]
            refine wpAnyH_take (i := 18) (oi := { dst := some 75, op := Op.pick (Operand.tmp 66) (Operand.tmp 74) (Operand.const (Value.bool false)), type := 4, pos := "instr.go:64", after := #[{ on := 9, ground := Ground.data }, { on := 17, ground := Ground.data }], guard := none }) (v := ?v8x16) rfl (by kernel_rfl) (by kernel_rfl) (by kernel_rfl) (fun _ _ _ h => h) (Or.inl ⟨by rfl, ?y8x16⟩) hn ?r8x16
            case y8x16 => (intro wS hS; (try go_simp); (try with_reducible rfl))
            try simp only [Act.put, List.setIfInBounds_toArray, List.set_cons_zero, List.set_cons_succ]
            refine wpAnyH_take (i := 19) (oi := { dst := some 4, op := Op.assign (Operand.tmp 75), type := 4, pos := "instr.go:64", after := #[{ on := 18, ground := Ground.data }, { on := 16, ground := Ground.chain }, { on := 0, ground := Ground.phase }, { on := 1, ground := Ground.phase }, { on := 2, ground := Ground.phase }, { on := 3, ground := Ground.phase }, { on := 4, ground := Ground.phase }, { on := 5, ground := Ground.phase }, { on := 6, ground := Ground.phase }, { on := 7, ground := Ground.phase }, { on := 8, ground := Ground.phase }, { on := 9, ground := Ground.phase }, { on := 10, ground := Ground.phase }, { on := 11, ground := Ground.phase }, { on := 12, ground := Ground.phase }, { on := 13, ground := Ground.phase }, { on := 14, ground := Ground.phase }, { on := 15, ground := Ground.phase }, { on := 16, ground := Ground.phase }, { on := 17, ground := Ground.phase }, { on := 18, ground := Ground.phase }], guard := none }) (v := ?v8x17) rfl (by kernel_rfl) (by kernel_rfl) (by kernel_rfl) (fun _ _ _ h => h) (Or.inl ⟨by rfl, ?y8x17⟩) hn ?r8x17
            case y8x17 => (intro wS hS; (try go_simp); (try with_reducible rfl))
            try simp only [Act.put, List.setIfInBounds_toArray, List.set_cons_zero, List.set_cons_succ]
            refine wpAnyH_take (i := 20) (oi := { dst := some 76, op := Op.fieldAddr 93 (Operand.tmp 1) 6, type := 0, pos := "instr.go:64", after := #[{ on := 0, ground := Ground.phase }, { on := 1, ground := Ground.phase }, { on := 2, ground := Ground.phase }, { on := 3, ground := Ground.phase }, { on := 4, ground := Ground.phase }, { on := 5, ground := Ground.phase }, { on := 6, ground := Ground.phase }, { on := 7, ground := Ground.phase }, { on := 8, ground := Ground.phase }, { on := 9, ground := Ground.phase }, { on := 10, ground := Ground.phase }, { on := 11, ground := Ground.phase }, { on := 12, ground := Ground.phase }, { on := 13, ground := Ground.phase }, { on := 14, ground := Ground.phase }, { on := 15, ground := Ground.phase }, { on := 16, ground := Ground.phase }, { on := 17, ground := Ground.phase }, { on := 18, ground := Ground.phase }, { on := 19, ground := Ground.phase }], guard := none }) (v := ?v8x18) rfl (by kernel_rfl) (by kernel_rfl) (by kernel_rfl) (fun _ _ _ h => h) (Or.inl ⟨by rfl, ?y8x18⟩) hn ?r8x18
            case y8x18 => (intro wS hS; (try go_simp); (try with_reducible rfl))
            try simp only [Act.put, List.setIfInBounds_toArray, List.set_cons_zero, List.set_cons_succ]
            refine wpAnyH_ready (rs := [21]) (by kernel_rfl) (by simp) ?_
            refine AllReadyH.cons (o := { dst := none, op := Op.store 9 (Operand.tmp 76) (Operand.const (Value.string { data := #[] })), type := 0, pos := "instr.go:64", after := #[{ on := 20, ground := Ground.data }, { on := 19, ground := Ground.chain }, { on := 0, ground := Ground.phase }, { on := 1, ground := Ground.phase }, { on := 2, ground := Ground.phase }, { on := 3, ground := Ground.phase }, { on := 4, ground := Ground.phase }, { on := 5, ground := Ground.phase }, { on := 6, ground := Ground.phase }, { on := 7, ground := Ground.phase }, { on := 8, ground := Ground.phase }, { on := 9, ground := Ground.phase }, { on := 10, ground := Ground.phase }, { on := 11, ground := Ground.phase }, { on := 12, ground := Ground.phase }, { on := 13, ground := Ground.phase }, { on := 14, ground := Ground.phase }, { on := 15, ground := Ground.phase }, { on := 16, ground := Ground.phase }, { on := 17, ground := Ground.phase }, { on := 18, ground := Ground.phase }, { on := 19, ground := Ground.phase }], guard := none }) rfl (fun K hK => ?_) AllReadyH.nil
            have z9 := cellAt hbx 9 (v := .string raw) rfl
            have f9 := frozenAt hbx 9
            go_simp
            have hbx := hp_set hbx 9 (.string ⟨#[]⟩)
            have hn : (fun w' => New w w' ∧ w'.heap[wa.heap.size]? = some (.cells #[.int .i64 12, .int .i64 ln] 123)) (wr.setCell ⟨w.heap.size, 9, none⟩ (.string ⟨#[]⟩)) := ⟨setNew hn.1 9 _, hp_other hn.2 HNE.out⟩
            refine hK.out _ _ (by first | exact hn | exact Upd.alloc hn _) (fun hn => ?_)
            clear hK K
            try simp only [Act.put, List.setIfInBounds_toArray, List.set_cons_zero, List.set_cons_succ]
            refine wpAnyH_done (by kernel_rfl) ?_ _
            refine NoPanic.normal ?_
            go_wp2_with fail
            go_meet
            exact ⟨_, (.slice al li.length cl), (.slice au (lb ty).length cu), rfl, (by have h : raw.size = 8 := (by have := has_eq HBH.out; omega); simp [ownQ, h]), hbx, hn.1, HL.out.new hn.1, HU.out.new hn.1⟩
          refine AllReadyH.cons (o := { dst := some 62, op := Op.load 9 (Operand.tmp 61), type := 9, pos := "instr.go:64", after := #[{ on := 4, ground := Ground.data }, { on := 1, ground := Ground.guard }], guard := some (1, true) }) rfl (fun K hK => ?_) AllReadyH.nil
          have z9 := cellAt hbx 9 (v := .string raw) rfl
          go_simp
          refine hK.out _ _ (by first | exact hn | exact Upd.alloc hn _) (fun hn => ?_)
          clear hK K
          try simp only [Act.put, List.setIfInBounds_toArray, List.set_cons_zero, List.set_cons_succ]
          refine wpAnyH_take (i := 6) (oi := { dst := some 63, op := Op.call { callee := Callee.builtin Builtin.len, args := #[Operand.tmp 62], argTypes := #[9] }, type := 3, pos := "instr.go:64", after := #[{ on := 5, ground := Ground.data }, { on := 1, ground := Ground.guard }], guard := some (1, true) }) (v := ?v8x19) rfl (by kernel_rfl) (by kernel_rfl) (by kernel_rfl) (fun _ _ _ h => h) (Or.inl ⟨by rfl, ?y8x19⟩) hn ?r8x19
          case y8x19 => (intro wS hS; (try go_simp); (try with_reducible rfl))
          try simp only [Act.put, List.setIfInBounds_toArray, List.set_cons_zero, List.set_cons_succ]
          refine wpAnyH_ready (rs := [3]) (by kernel_rfl) (by simp) ?_
          refine AllReadyH.cons (o := { dst := some 60, op := Op.call { callee := Callee.value (Operand.func 53), args := #[Operand.tmp 59], argTypes := #[123] }, type := 127, pos := "instr.go:64", after := #[{ on := 2, ground := Ground.data }, { on := 1, ground := Ground.chain }, { on := 1, ground := Ground.guard }], guard := some (1, true) }) rfl (fun K hK => ?_) AllReadyH.nil
          go_simp
          refine (HS2.out _ _).mono ?_
          rintro e wq ⟨rfl, hnq⟩
          go_wp2_with fail
          have hbx := hp1 hbx hnq
          have hn : (fun w' => New w w' ∧ w'.heap[wa.heap.size]? = some (.cells #[.int .i64 12, .int .i64 ln] 123)) wq := ⟨New.trans hn.1 hnq, hp1 hn.2 hnq⟩
          refine hK.out _ _ (by first | exact hn | exact Upd.alloc hn _) (fun hn => ?_)
          clear hK K
          try simp only [Act.put, List.setIfInBounds_toArray, List.set_cons_zero, List.set_cons_succ]
          refine wpAnyH_ready (rs := [7]) (by kernel_rfl) (by simp) ?_
          refine AllReadyH.cons (o := { dst := some 64, op := Op.call { callee := Callee.value (Operand.func 54), args := #[Operand.tmp 60, Operand.tmp 63], argTypes := #[127, 3] }, type := 4, pos := "instr.go:64", after := #[{ on := 3, ground := Ground.data }, { on := 6, ground := Ground.data }, { on := 3, ground := Ground.chain }, { on := 1, ground := Ground.guard }], guard := some (1, true) }) rfl (fun K hK => ?_) AllReadyH.nil
          go_simp
          refine (HH2.out _).mono ?_
          rintro e wr ⟨rfl, hnq⟩
          go_wp2_with fail
          have hbx := hp1 hbx hnq
          have hn : (fun w' => New w w' ∧ w'.heap[wa.heap.size]? = some (.cells #[.int .i64 12, .int .i64 ln] 123)) wr := ⟨New.trans hn.1 hnq, hp1 hn.2 hnq⟩
          refine hK.out _ _ (by first | exact hn | exact Upd.alloc hn _) (fun hn => ?_)
          clear hK K
          try simp only [Act.put, List.setIfInBounds_toArray, List.set_cons_zero, List.set_cons_succ]
          refine wpAnyH_take (i := 8) (oi := { dst := some 65, op := Op.pick (Operand.tmp 58) (Operand.tmp 64) (Operand.const (Value.bool false)), type := 4, pos := "instr.go:64", after := #[{ on := 1, ground := Ground.data }, { on := 7, ground := Ground.data }], guard := none }) (v := ?v8x20) rfl (by kernel_rfl) (by kernel_rfl) (by kernel_rfl) (fun _ _ _ h => h) (Or.inl ⟨by rfl, ?y8x20⟩) hn ?r8x20
          case y8x20 => (intro wS hS; (try go_simp); (try with_reducible rfl))
          try simp only [Act.put, List.setIfInBounds_toArray, List.set_cons_zero, List.set_cons_succ]
          refine wpAnyH_take (i := 9) (oi := { dst := some 66, op := Op.move (Operand.tmp 65), type := 4, pos := "instr.go:64", after := #[{ on := 8, ground := Ground.data }, { on := 7, ground := Ground.chain }], guard := none }) (v := ?v8x21) rfl (by kernel_rfl) (by kernel_rfl) (by kernel_rfl) (fun _ _ _ h => h) (Or.inl ⟨by rfl, ?y8x21⟩) hn ?r8x21
          case y8x21 => (intro wS hS; (try go_simp); (try with_reducible rfl))
          try simp only [Act.put, List.setIfInBounds_toArray, List.set_cons_zero, List.set_cons_succ]
          refine wpAnyH_take (i := 10) (oi := { dst := some 67, op := Op.fieldAddr 123 (Operand.tmp 3) 0, type := 0, pos := "instr.go:64", after := #[{ on := 9, ground := Ground.guard }], guard := some (9, true) }) (v := ?v8x22) rfl (by kernel_rfl) (by kernel_rfl) (by kernel_rfl) (fun _ _ _ h => h) (Or.inl ⟨by rfl, ?y8x22⟩) hn ?r8x22
          case y8x22 => (intro wS hS; (try go_simp); (try with_reducible rfl))
          try simp only [Act.put, List.setIfInBounds_toArray, List.set_cons_zero, List.set_cons_succ]
          refine wpAnyH_take (i := 11) (oi := { dst := some 68, op := Op.load 3 (Operand.tmp 67), type := 3, pos := "instr.go:64", after := #[{ on := 10, ground := Ground.data }, { on := 9, ground := Ground.guard }], guard := some (9, true) }) (v := ?v8x23) rfl (by kernel_rfl) (by kernel_rfl) (by kernel_rfl) (fun _ _ _ h => h) (Or.inl ⟨by rfl, ?y8x23⟩) hn ?r8x23
          case y8x23 => (intro wS hS; have c0 := cellAt hS.2 0 rfl; (try go_simp); (try with_reducible rfl))
          try simp only [Act.put, List.setIfInBounds_toArray, List.set_cons_zero, List.set_cons_succ]
          refine wpAnyH_take (i := 12) (oi := { dst := some 69, op := Op.binOp BinOp.neq 3 (Operand.tmp 68) (Operand.const (Value.int IntKind.i64 14)) 3, type := 4, pos := "instr.go:64", after := #[{ on := 11, ground := Ground.data }, { on := 9, ground := Ground.guard }], guard := some (9, true) }) (v := ?v8x24) rfl (by kernel_rfl) (by kernel_rfl) (by kernel_rfl) (fun _ _ _ h => h) (Or.inl ⟨by rfl, ?y8x24⟩) hn ?r8x24
          case y8x24 => (intro wS hS; (try go_simp); (try with_reducible rfl))
          try simp only [Act.put, List.setIfInBounds_toArray, List.set_cons_zero, List.set_cons_succ]
          refine wpAnyH_take (i := 13) (oi := { dst := some 70, op := Op.move (Operand.tmp 69), type := 4, pos := "instr.go:64", after := #[{ on := 12, ground := Ground.data }, { on := 9, ground := Ground.chain }, { on := 9, ground := Ground.guard }], guard := some (9, true) }) (v := ?v8x25) rfl (by kernel_rfl) (by kernel_rfl) (by kernel_rfl) (fun _ _ _ h => h) (Or.inl ⟨by rfl, ?y8x25⟩) hn ?r8x25
          case y8x25 => (intro wS hS; (try go_simp); (try with_reducible rfl))
          try simp only [Act.put, List.setIfInBounds_toArray, List.set_cons_zero, List.set_cons_succ]
          refine wpAnyH_take (i := 14) (oi := { dst := some 71, op := Op.fieldAddr 93 (Operand.tmp 1) 6, type := 0, pos := "instr.go:64", after := #[{ on := 13, ground := Ground.guard }], guard := some (13, false) }) (v := undef) rfl (by kernel_rfl) (by kernel_rfl) (by kernel_rfl) (fun _ _ _ h => h) (Or.inr ⟨by rfl, rfl⟩) hn ?_
          try simp only [Act.put, List.setIfInBounds_toArray, List.set_cons_zero, List.set_cons_succ]
          refine wpAnyH_take (i := 15) (oi := { dst := some 72, op := Op.load 9 (Operand.tmp 71), type := 9, pos := "instr.go:64", after := #[{ on := 14, ground := Ground.data }, { on := 13, ground := Ground.guard }], guard := some (13, false) }) (v := undef) rfl (by kernel_rfl) (by kernel_rfl) (by kernel_rfl) (fun _ _ _ h => h) (Or.inr ⟨by rfl, rfl⟩) hn ?_
          try simp only [Act.put, List.setIfInBounds_toArray, List.set_cons_zero, List.set_cons_succ]
          refine wpAnyH_take (i := 16) (oi := { dst := some 73, op := Op.call { callee := Callee.value (Operand.func 55), args := #[Operand.tmp 72], argTypes := #[9] }, type := 4, pos := "instr.go:64", after := #[{ on := 15, ground := Ground.data }, { on := 13, ground := Ground.chain }, { on := 13, ground := Ground.guard }], guard := some (13, false) }) (v := undef) rfl (by kernel_rfl) (by kernel_rfl) (by kernel_rfl) (fun _ _ _ h => h) (Or.inr ⟨by rfl, rfl⟩) hn ?_
          try simp only [Act.put, List.setIfInBounds_toArray, List.set_cons_zero, List.set_cons_succ]
          refine wpAnyH_take (i := 17) (oi := { dst := some 74, op := Op.pick (Operand.tmp 70) (Operand.const (Value.bool true)) (Operand.tmp 73), type := 4, pos := "instr.go:64", after := #[{ on := 13, ground := Ground.data }, { on := 16, ground := Ground.data }, { on := 9, ground := Ground.guard }], guard := some (9, true) }) (v := ?v8x29) rfl (by kernel_rfl) (by kernel_rfl) (by kernel_rfl) (fun _ _ _ h => h) (Or.inl ⟨by rfl, ?y8x29⟩) hn ?r8x29
          case y8x29 => (intro wS hS; (try go_simp); (try with_reducible rfl))
          try simp only [Act.put, List.setIfInBounds_toArray, List.set_cons_zero, List.set_cons_succ]
          refine wpAnyH_take (i := 18) (oi := { dst := some 75, op := Op.pick (Operand.tmp 66) (Operand.tmp 74) (Operand.const (Value.bool false)), type := 4, pos := "instr.go:64", after := #[{ on := 9, ground := Ground.data }, { on := 17, ground := Ground.data }], guard := none }) (v := ?v8x30) rfl (by kernel_rfl) (by kernel_rfl) (by kernel_rfl) (fun _ _ _ h => h) (Or.inl ⟨by rfl, ?y8x30⟩) hn ?r8x30
          case y8x30 => (intro wS hS; (try go_simp); (try with_reducible rfl))
          try simp only [Act.put, List.setIfInBounds_toArray, List.set_cons_zero, List.set_cons_succ]
          refine wpAnyH_take (i := 19) (oi := { dst := some 4, op := Op.assign (Operand.tmp 75), type := 4, pos := "instr.go:64", after := #[{ on := 18, ground := Ground.data }, { on := 16, ground := Ground.chain }, { on := 0, ground := Ground.phase }, { on := 1, ground := Ground.phase }, { on := 2, ground := Ground.phase }, { on := 3, ground := Ground.phase }, { on := 4, ground := Ground.phase }, { on := 5, ground := Ground.phase }, { on := 6, ground := Ground.phase }, { on := 7, ground := Ground.phase }, { on := 8, ground := Ground.phase }, { on := 9, ground := Ground.phase }, { on := 10, ground := Ground.phase }, { on := 11, ground := Ground.phase }, { on := 12, ground := Ground.phase }, { on := 13, ground := Ground.phase }, { on := 14, ground := Ground.phase }, { on := 15, ground := Ground.phase }, { on := 16, ground := Ground.phase }, { on := 17, ground := Ground.phase }, { on := 18, ground := Ground.phase }], guard := none }) (v := ?v8x31) rfl (by kernel_rfl) (by kernel_rfl) (by kernel_rfl) (fun _ _ _ h => h) (Or.inl ⟨by rfl, ?y8x31⟩) hn ?r8x31
          case y8x31 => (intro wS hS; (try go_simp); (try with_reducible rfl))
          try simp only [Act.put, List.setIfInBounds_toArray, List.set_cons_zero, List.set_cons_succ]
          refine wpAnyH_take (i := 20) (oi := { dst := some 76, op := Op.fieldAddr 93 (Operand.tmp 1) 6, type := 0, pos := "instr.go:64", after := #[{ on := 0, ground := Ground.phase }, { on := 1, ground := Ground.phase }, { on := 2, ground := Ground.phase }, { on := 3, ground := Ground.phase }, { on := 4, ground := Ground.phase }, { on := 5, ground := Ground.phase }, { on := 6, ground := Ground.phase }, { on := 7, ground := Ground.phase }, { on := 8, ground := Ground.phase }, { on := 9, ground := Ground.phase }, { on := 10, ground := Ground.phase }, { on := 11, ground := Ground.phase }, { on := 12, ground := Ground.phase }, { on := 13, ground := Ground.phase }, { on := 14, ground := Ground.phase }, { on := 15, ground := Ground.phase }, { on := 16, ground := Ground.phase }, { on := 17, ground := Ground.phase }, { on := 18, ground := Ground.phase }, { on := 19, ground := Ground.phase }], guard := none }) (v := ?v8x32) rfl (by kernel_rfl) (by kernel_rfl) (by kernel_rfl) (fun _ _ _ h => h) (Or.inl ⟨by rfl, ?y8x32⟩) hn ?r8x32
          case y8x32 => (intro wS hS; (try go_simp); (try with_reducible rfl))
          try simp only [Act.put, List.setIfInBounds_toArray, List.set_cons_zero, List.set_cons_succ]
          refine wpAnyH_ready (rs := [21]) (by kernel_rfl) (by simp) ?_
          refine AllReadyH.cons (o := { dst := none, op := Op.store 9 (Operand.tmp 76) (Operand.const (Value.string { data := #[] })), type := 0, pos := "instr.go:64", after := #[{ on := 20, ground := Ground.data }, { on := 19, ground := Ground.chain }, { on := 0, ground := Ground.phase }, { on := 1, ground := Ground.phase }, { on := 2, ground := Ground.phase }, { on := 3, ground := Ground.phase }, { on := 4, ground := Ground.phase }, { on := 5, ground := Ground.phase }, { on := 6, ground := Ground.phase }, { on := 7, ground := Ground.phase }, { on := 8, ground := Ground.phase }, { on := 9, ground := Ground.phase }, { on := 10, ground := Ground.phase }, { on := 11, ground := Ground.phase }, { on := 12, ground := Ground.phase }, { on := 13, ground := Ground.phase }, { on := 14, ground := Ground.phase }, { on := 15, ground := Ground.phase }, { on := 16, ground := Ground.phase }, { on := 17, ground := Ground.phase }, { on := 18, ground := Ground.phase }, { on := 19, ground := Ground.phase }], guard := none }) rfl (fun K hK => ?_) AllReadyH.nil
          have z9 := cellAt hbx 9 (v := .string raw) rfl
          have f9 := frozenAt hbx 9
          go_simp
          have hbx := hp_set hbx 9 (.string ⟨#[]⟩)
          have hn : (fun w' => New w w' ∧ w'.heap[wa.heap.size]? = some (.cells #[.int .i64 12, .int .i64 ln] 123)) (wr.setCell ⟨w.heap.size, 9, none⟩ (.string ⟨#[]⟩)) := ⟨setNew hn.1 9 _, hp_other hn.2 HNE.out⟩
          refine hK.out _ _ (by first | exact hn | exact Upd.alloc hn _) (fun hn => ?_)
          clear hK K
          try simp only [Act.put, List.setIfInBounds_toArray, List.set_cons_zero, List.set_cons_succ]
          refine wpAnyH_done (by kernel_rfl) ?_ _
          refine NoPanic.normal ?_
          go_wp2_with fail
          go_meet
          exact ⟨_, (.slice al li.length cl), (.slice au (lb ty).length cu), rfl, (by have h : raw.size = 8 := (by have := has_eq HBH.out; omega); simp [ownQ, h]), hbx, hn.1, HL.out.new hn.1, HU.out.new hn.1⟩
        | false =>
          have hn : (fun w' => New w w' ∧ w'.heap[wa.heap.size]? = some (.cells #[.int .i64 12, .int .i64 ln] 123)) wb.drew := ⟨HN.out.drew, HI.out⟩
          have hbx : Box wb.drew w.heap.size ⟨p, c, k, t, i, x, y, li, n, raw, lane, ty⟩ (.slice al li.length cl) (.slice au (lb ty).length cu) := HB.out
          clear y0 y1 z9 f9
          go_wp2_with fail
          refine wp_region_noPanic ?_
          refine wp_region_held_drew (S := (fun w' => New w w' ∧ w'.heap[wa.heap.size]? = some (.cells #[.int .i64 12, .int .i64 ln] 123))) (by kernel_rfl) (by first | exact hn | exact (Upd.refl _ _).drew | exact Upd.drew (by assumption)) (fun hn => ?_)
          generalize wb.drew = wd at *
          refine wpAnyH_take (i := 0) (oi := { dst := some 57, op := Op.move (Operand.tmp 4), type := 4, pos := "instr.go:64", after := #[], guard := none }) (v := ?v9x1) rfl (by kernel_rfl) (by kernel_rfl) (by kernel_rfl) (fun _ _ _ h => h) (Or.inl ⟨by rfl, ?y9x1⟩) hn ?r9x1
          case y9x1 => (intro wS hS; (try go_simp); (try with_reducible rfl))
          try simp only [Act.put, List.setIfInBounds_toArray, List.set_cons_zero, List.set_cons_succ]
          refine wpAnyH_take (i := 1) (oi := { dst := some 58, op := Op.move (Operand.tmp 57), type := 4, pos := "instr.go:64", after := #[{ on := 0, ground := Ground.data }], guard := none }) (v := ?v9x2) rfl (by kernel_rfl) (by kernel_rfl) (by kernel_rfl) (fun _ _ _ h => h) (Or.inl ⟨by rfl, ?y9x2⟩) hn ?r9x2
          case y9x2 => (intro wS hS; (try go_simp); (try with_reducible rfl))
          try simp only [Act.put, List.setIfInBounds_toArray, List.set_cons_zero, List.set_cons_succ]
          refine wpAnyH_take (i := 2) (oi := { dst := some 59, op := Op.load 123 (Operand.tmp 3), type := 123, pos := "instr.go:64", after := #[{ on := 1, ground := Ground.guard }], guard := some (1, true) }) (v := ?v9x3) rfl (by kernel_rfl) (by kernel_rfl) (by kernel_rfl) (fun _ _ _ h => h) (Or.inl ⟨by rfl, ?y9x3⟩) hn ?r9x3
          case y9x3 => (intro wS hS; have c0 := cellAt hS.2 0 rfl; have c1 := cellAt hS.2 1 rfl; (try go_simp); (try with_reducible rfl))
          try simp only [Act.put, List.setIfInBounds_toArray, List.set_cons_zero, List.set_cons_succ]
          refine wpAnyH_take (i := 4) (oi := { dst := some 61, op := Op.fieldAddr 93 (Operand.tmp 1) 6, type := 0, pos := "instr.go:64", after := #[{ on := 1, ground := Ground.guard }], guard := some (1, true) }) (v := ?v9x4) rfl (by kernel_rfl) (by kernel_rfl) (by kernel_rfl) (fun _ _ _ h => h) (Or.inl ⟨by rfl, ?y9x4⟩) hn ?r9x4
          case y9x4 => (intro wS hS; (try go_simp); (try with_reducible rfl))
          try simp only [Act.put, List.setIfInBounds_toArray, List.set_cons_zero, List.set_cons_succ]
          refine wpAnyH_ready (rs := [3, 5]) (by kernel_rfl) (by simp) ?_
          refine AllReadyH.cons (o := { dst := some 60, op := Op.call { callee := Callee.value (Operand.func 53), args := #[Operand.tmp 59], argTypes := #[123] }, type := 127, pos := "instr.go:64", after := #[{ on := 2, ground := Ground.data }, { on := 1, ground := Ground.chain }, { on := 1, ground := Ground.guard }], guard := some (1, true) }) rfl (fun K hK => ?_) ?_
          · skip
            go_simp
            refine (HS2.out _ _).mono ?_
            rintro e wq ⟨rfl, hnq⟩
            go_wp2_with fail
            have hbx := hp1 hbx hnq
            have hn : (fun w' => New w w' ∧ w'.heap[wa.heap.size]? = some (.cells #[.int .i64 12, .int .i64 ln] 123)) wq := ⟨New.trans hn.1 hnq, hp1 hn.2 hnq⟩
            refine hK.out _ _ (by first | exact hn | exact Upd.alloc hn _) (fun hn => ?_)
            clear hK K
            try simp only [Act.put, List.setIfInBounds_toArray, List.set_cons_zero, List.set_cons_succ]
            refine wpAnyH_ready (rs := [5]) (by kernel_rfl) (by simp) ?_
            refine AllReadyH.cons (o := { dst := some 62, op := Op.load 9 (Operand.tmp 61), type := 9, pos := "instr.go:64", after := #[{ on := 4, ground := Ground.data }, { on := 1, ground := Ground.guard }], guard := some (1, true) }) rfl (fun K hK => ?_) AllReadyH.nil
            have z9 := cellAt hbx 9 (v := .string raw) rfl
            go_simp
            refine hK.out _ _ (by first | exact hn | exact Upd.alloc hn _) (fun hn => ?_)
            clear hK K
            try simp only [Act.put, List.setIfInBounds_toArray, List.set_cons_zero, List.set_cons_succ]
            refine wpAnyH_take (i := 6) (oi := { dst := some 63, op := Op.call { callee := Callee.builtin Builtin.len, args := #[Operand.tmp 62], argTypes := #[9] }, type := 3, pos := "instr.go:64", after := #[{ on := 5, ground := Ground.data }, { on := 1, ground := Ground.guard }], guard := some (1, true) }) (v := ?v9x5) rfl (by kernel_rfl) (by kernel_rfl) (by kernel_rfl) (fun _ _ _ h => h) (Or.inl ⟨by rfl, ?y9x5⟩) hn ?r9x5
            case y9x5 => (intro wS hS; (try go_simp); (try with_reducible rfl))
            try simp only [Act.put, List.setIfInBounds_toArray, List.set_cons_zero, List.set_cons_succ]
            refine wpAnyH_ready (rs := [7]) (by kernel_rfl) (by simp) ?_
            refine AllReadyH.cons (o := { dst := some 64, op := Op.call { callee := Callee.value (Operand.func 54), args := #[Operand.tmp 60, Operand.tmp 63], argTypes := #[127, 3] }, type := 4, pos := "instr.go:64", after := #[{ on := 3, ground := Ground.data }, { on := 6, ground := Ground.data }, { on := 3, ground := Ground.chain }, { on := 1, ground := Ground.guard }], guard := some (1, true) }) rfl (fun K hK => ?_) AllReadyH.nil
            go_simp
            refine (HH2.out _).mono ?_
            rintro e wr ⟨rfl, hnq⟩
            go_wp2_with fail
            have hbx := hp1 hbx hnq
            have hn : (fun w' => New w w' ∧ w'.heap[wa.heap.size]? = some (.cells #[.int .i64 12, .int .i64 ln] 123)) wr := ⟨New.trans hn.1 hnq, hp1 hn.2 hnq⟩
            refine hK.out _ _ (by first | exact hn | exact Upd.alloc hn _) (fun hn => ?_)
            clear hK K
            try simp only [Act.put, List.setIfInBounds_toArray, List.set_cons_zero, List.set_cons_succ]
            refine wpAnyH_take (i := 8) (oi := { dst := some 65, op := Op.pick (Operand.tmp 58) (Operand.tmp 64) (Operand.const (Value.bool false)), type := 4, pos := "instr.go:64", after := #[{ on := 1, ground := Ground.data }, { on := 7, ground := Ground.data }], guard := none }) (v := ?v9x6) rfl (by kernel_rfl) (by kernel_rfl) (by kernel_rfl) (fun _ _ _ h => h) (Or.inl ⟨by rfl, ?y9x6⟩) hn ?r9x6
            case y9x6 => (intro wS hS; (try go_simp); (try with_reducible rfl))
            try simp only [Act.put, List.setIfInBounds_toArray, List.set_cons_zero, List.set_cons_succ]
            refine wpAnyH_take (i := 9) (oi := { dst := some 66, op := Op.move (Operand.tmp 65), type := 4, pos := "instr.go:64", after := #[{ on := 8, ground := Ground.data }, { on := 7, ground := Ground.chain }], guard := none }) (v := ?v9x7) rfl (by kernel_rfl) (by kernel_rfl) (by kernel_rfl) (fun _ _ _ h => h) (Or.inl ⟨by rfl, ?y9x7⟩) hn ?r9x7
            case y9x7 => (intro wS hS; (try go_simp); (try with_reducible rfl))
            try simp only [Act.put, List.setIfInBounds_toArray, List.set_cons_zero, List.set_cons_succ]
            refine wpAnyH_take (i := 10) (oi := { dst := some 67, op := Op.fieldAddr 123 (Operand.tmp 3) 0, type := 0, pos := "instr.go:64", after := #[{ on := 9, ground := Ground.guard }], guard := some (9, true) }) (v := undef) rfl (by kernel_rfl) (by kernel_rfl) (by kernel_rfl) (fun _ _ _ h => h) (Or.inr ⟨by rfl, rfl⟩) hn ?_
            try simp only [Act.put, List.setIfInBounds_toArray, List.set_cons_zero, List.set_cons_succ]
            refine wpAnyH_take (i := 11) (oi := { dst := some 68, op := Op.load 3 (Operand.tmp 67), type := 3, pos := "instr.go:64", after := #[{ on := 10, ground := Ground.data }, { on := 9, ground := Ground.guard }], guard := some (9, true) }) (v := undef) rfl (by kernel_rfl) (by kernel_rfl) (by kernel_rfl) (fun _ _ _ h => h) (Or.inr ⟨by rfl, rfl⟩) hn ?_
            try simp only [Act.put, List.setIfInBounds_toArray, List.set_cons_zero, List.set_cons_succ]
            refine wpAnyH_take (i := 12) (oi := { dst := some 69, op := Op.binOp BinOp.neq 3 (Operand.tmp 68) (Operand.const (Value.int IntKind.i64 14)) 3, type := 4, pos := "instr.go:64", after := #[{ on := 11, ground := Ground.data }, { on := 9, ground := Ground.guard }], guard := some (9, true) }) (v := undef) rfl (by kernel_rfl) (by kernel_rfl) (by kernel_rfl) (fun _ _ _ h => h) (Or.inr ⟨by rfl, rfl⟩) hn ?_
            try simp only [Act.put, List.setIfInBounds_toArray, List.set_cons_zero, List.set_cons_succ]
            refine wpAnyH_take (i := 13) (oi := { dst := some 70, op := Op.move (Operand.tmp 69), type := 4, pos := "instr.go:64", after := #[{ on := 12, ground := Ground.data }, { on := 9, ground := Ground.chain }, { on := 9, ground := Ground.guard }], guard := some (9, true) }) (v := undef) rfl (by kernel_rfl) (by kernel_rfl) (by kernel_rfl) (fun _ _ _ h => h) (Or.inr ⟨by rfl, rfl⟩) hn ?_
            try simp only [Act.put, List.setIfInBounds_toArray, List.set_cons_zero, List.set_cons_succ]
            refine wpAnyH_take (i := 14) (oi := { dst := some 71, op := Op.fieldAddr 93 (Operand.tmp 1) 6, type := 0, pos := "instr.go:64", after := #[{ on := 13, ground := Ground.guard }], guard := some (13, false) }) (v := undef) rfl (by kernel_rfl) (by kernel_rfl) (by kernel_rfl) (fun _ _ _ h => h) (Or.inr ⟨by rfl, rfl⟩) hn ?_
            try simp only [Act.put, List.setIfInBounds_toArray, List.set_cons_zero, List.set_cons_succ]
            refine wpAnyH_take (i := 15) (oi := { dst := some 72, op := Op.load 9 (Operand.tmp 71), type := 9, pos := "instr.go:64", after := #[{ on := 14, ground := Ground.data }, { on := 13, ground := Ground.guard }], guard := some (13, false) }) (v := undef) rfl (by kernel_rfl) (by kernel_rfl) (by kernel_rfl) (fun _ _ _ h => h) (Or.inr ⟨by rfl, rfl⟩) hn ?_
            try simp only [Act.put, List.setIfInBounds_toArray, List.set_cons_zero, List.set_cons_succ]
            refine wpAnyH_take (i := 16) (oi := { dst := some 73, op := Op.call { callee := Callee.value (Operand.func 55), args := #[Operand.tmp 72], argTypes := #[9] }, type := 4, pos := "instr.go:64", after := #[{ on := 15, ground := Ground.data }, { on := 13, ground := Ground.chain }, { on := 13, ground := Ground.guard }], guard := some (13, false) }) (v := undef) rfl (by kernel_rfl) (by kernel_rfl) (by kernel_rfl) (fun _ _ _ h => h) (Or.inr ⟨by rfl, rfl⟩) hn ?_
            try simp only [Act.put, List.setIfInBounds_toArray, List.set_cons_zero, List.set_cons_succ]
            refine wpAnyH_take (i := 17) (oi := { dst := some 74, op := Op.pick (Operand.tmp 70) (Operand.const (Value.bool true)) (Operand.tmp 73), type := 4, pos := "instr.go:64", after := #[{ on := 13, ground := Ground.data }, { on := 16, ground := Ground.data }, { on := 9, ground := Ground.guard }], guard := some (9, true) }) (v := undef) rfl (by kernel_rfl) (by kernel_rfl) (by kernel_rfl) (fun _ _ _ h => h) (Or.inr ⟨by rfl, rfl⟩) hn ?_
            try simp only [Act.put, List.setIfInBounds_toArray, List.set_cons_zero, List.set_cons_succ]
            refine wpAnyH_take (i := 18) (oi := { dst := some 75, op := Op.pick (Operand.tmp 66) (Operand.tmp 74) (Operand.const (Value.bool false)), type := 4, pos := "instr.go:64", after := #[{ on := 9, ground := Ground.data }, { on := 17, ground := Ground.data }], guard := none }) (v := ?v9x16) rfl (by kernel_rfl) (by kernel_rfl) (by kernel_rfl) (fun _ _ _ h => h) (Or.inl ⟨by rfl, ?y9x16⟩) hn ?r9x16
            case y9x16 => (intro wS hS; (try go_simp); (try with_reducible rfl))
            try simp only [Act.put, List.setIfInBounds_toArray, List.set_cons_zero, List.set_cons_succ]
            refine wpAnyH_take (i := 19) (oi := { dst := some 4, op := Op.assign (Operand.tmp 75), type := 4, pos := "instr.go:64", after := #[{ on := 18, ground := Ground.data }, { on := 16, ground := Ground.chain }, { on := 0, ground := Ground.phase }, { on := 1, ground := Ground.phase }, { on := 2, ground := Ground.phase }, { on := 3, ground := Ground.phase }, { on := 4, ground := Ground.phase }, { on := 5, ground := Ground.phase }, { on := 6, ground := Ground.phase }, { on := 7, ground := Ground.phase }, { on := 8, ground := Ground.phase }, { on := 9, ground := Ground.phase }, { on := 10, ground := Ground.phase }, { on := 11, ground := Ground.phase }, { on := 12, ground := Ground.phase }, { on := 13, ground := Ground.phase }, { on := 14, ground := Ground.phase }, { on := 15, ground := Ground.phase }, { on := 16, ground := Ground.phase }, { on := 17, ground := Ground.phase }, { on := 18, ground := Ground.phase }], guard := none }) (v := ?v9x17) rfl (by kernel_rfl) (by kernel_rfl) (by kernel_rfl) (fun _ _ _ h => h) (Or.inl ⟨by rfl, ?y9x17⟩) hn ?r9x17
            case y9x17 => (intro wS hS; (try go_simp); (try with_reducible rfl))
            try simp only [Act.put, List.setIfInBounds_toArray, List.set_cons_zero, List.set_cons_succ]
            refine wpAnyH_take (i := 20) (oi := { dst := some 76, op := Op.fieldAddr 93 (Operand.tmp 1) 6, type := 0, pos := "instr.go:64", after := #[{ on := 0, ground := Ground.phase }, { on := 1, ground := Ground.phase }, { on := 2, ground := Ground.phase }, { on := 3, ground := Ground.phase }, { on := 4, ground := Ground.phase }, { on := 5, ground := Ground.phase }, { on := 6, ground := Ground.phase }, { on := 7, ground := Ground.phase }, { on := 8, ground := Ground.phase }, { on := 9, ground := Ground.phase }, { on := 10, ground := Ground.phase }, { on := 11, ground := Ground.phase }, { on := 12, ground := Ground.phase }, { on := 13, ground := Ground.phase }, { on := 14, ground := Ground.phase }, { on := 15, ground := Ground.phase }, { on := 16, ground := Ground.phase }, { on := 17, ground := Ground.phase }, { on := 18, ground := Ground.phase }, { on := 19, ground := Ground.phase }], guard := none }) (v := ?v9x18) rfl (by kernel_rfl) (by kernel_rfl) (by kernel_rfl) (fun _ _ _ h => h) (Or.inl ⟨by rfl, ?y9x18⟩) hn ?r9x18
            case y9x18 => (intro wS hS; (try go_simp); (try with_reducible rfl))
            try simp only [Act.put, List.setIfInBounds_toArray, List.set_cons_zero, List.set_cons_succ]
            refine wpAnyH_ready (rs := [21]) (by kernel_rfl) (by simp) ?_
            refine AllReadyH.cons (o := { dst := none, op := Op.store 9 (Operand.tmp 76) (Operand.const (Value.string { data := #[] })), type := 0, pos := "instr.go:64", after := #[{ on := 20, ground := Ground.data }, { on := 19, ground := Ground.chain }, { on := 0, ground := Ground.phase }, { on := 1, ground := Ground.phase }, { on := 2, ground := Ground.phase }, { on := 3, ground := Ground.phase }, { on := 4, ground := Ground.phase }, { on := 5, ground := Ground.phase }, { on := 6, ground := Ground.phase }, { on := 7, ground := Ground.phase }, { on := 8, ground := Ground.phase }, { on := 9, ground := Ground.phase }, { on := 10, ground := Ground.phase }, { on := 11, ground := Ground.phase }, { on := 12, ground := Ground.phase }, { on := 13, ground := Ground.phase }, { on := 14, ground := Ground.phase }, { on := 15, ground := Ground.phase }, { on := 16, ground := Ground.phase }, { on := 17, ground := Ground.phase }, { on := 18, ground := Ground.phase }, { on := 19, ground := Ground.phase }], guard := none }) rfl (fun K hK => ?_) AllReadyH.nil
            have z9 := cellAt hbx 9 (v := .string raw) rfl
            have f9 := frozenAt hbx 9
            go_simp
            have hbx := hp_set hbx 9 (.string ⟨#[]⟩)
            have hn : (fun w' => New w w' ∧ w'.heap[wa.heap.size]? = some (.cells #[.int .i64 12, .int .i64 ln] 123)) (wr.setCell ⟨w.heap.size, 9, none⟩ (.string ⟨#[]⟩)) := ⟨setNew hn.1 9 _, hp_other hn.2 HNE.out⟩
            refine hK.out _ _ (by first | exact hn | exact Upd.alloc hn _) (fun hn => ?_)
            clear hK K
            try simp only [Act.put, List.setIfInBounds_toArray, List.set_cons_zero, List.set_cons_succ]
            refine wpAnyH_done (by kernel_rfl) ?_ _
            refine NoPanic.normal ?_
            go_wp2_with fail
            go_meet
            exact ⟨_, (.slice al li.length cl), (.slice au (lb ty).length cu), rfl, (by have h := has_ne HBH.out; simp [ownQ, h]), hbx, hn.1, HL.out.new hn.1, HU.out.new hn.1⟩
          refine AllReadyH.cons (o := { dst := some 62, op := Op.load 9 (Operand.tmp 61), type := 9, pos := "instr.go:64", after := #[{ on := 4, ground := Ground.data }, { on := 1, ground := Ground.guard }], guard := some (1, true) }) rfl (fun K hK => ?_) AllReadyH.nil
          have z9 := cellAt hbx 9 (v := .string raw) rfl
          go_simp
          refine hK.out _ _ (by first | exact hn | exact Upd.alloc hn _) (fun hn => ?_)
          clear hK K
          try simp only [Act.put, List.setIfInBounds_toArray, List.set_cons_zero, List.set_cons_succ]
          refine wpAnyH_take (i := 6) (oi := { dst := some 63, op := Op.call { callee := Callee.builtin Builtin.len, args := #[Operand.tmp 62], argTypes := #[9] }, type := 3, pos := "instr.go:64", after := #[{ on := 5, ground := Ground.data }, { on := 1, ground := Ground.guard }], guard := some (1, true) }) (v := ?v9x19) rfl (by kernel_rfl) (by kernel_rfl) (by kernel_rfl) (fun _ _ _ h => h) (Or.inl ⟨by rfl, ?y9x19⟩) hn ?r9x19
          case y9x19 => (intro wS hS; (try go_simp); (try with_reducible rfl))
          try simp only [Act.put, List.setIfInBounds_toArray, List.set_cons_zero, List.set_cons_succ]
          refine wpAnyH_ready (rs := [3]) (by kernel_rfl) (by simp) ?_
          refine AllReadyH.cons (o := { dst := some 60, op := Op.call { callee := Callee.value (Operand.func 53), args := #[Operand.tmp 59], argTypes := #[123] }, type := 127, pos := "instr.go:64", after := #[{ on := 2, ground := Ground.data }, { on := 1, ground := Ground.chain }, { on := 1, ground := Ground.guard }], guard := some (1, true) }) rfl (fun K hK => ?_) AllReadyH.nil
          go_simp
          refine (HS2.out _ _).mono ?_
          rintro e wq ⟨rfl, hnq⟩
          go_wp2_with fail
          have hbx := hp1 hbx hnq
          have hn : (fun w' => New w w' ∧ w'.heap[wa.heap.size]? = some (.cells #[.int .i64 12, .int .i64 ln] 123)) wq := ⟨New.trans hn.1 hnq, hp1 hn.2 hnq⟩
          refine hK.out _ _ (by first | exact hn | exact Upd.alloc hn _) (fun hn => ?_)
          clear hK K
          try simp only [Act.put, List.setIfInBounds_toArray, List.set_cons_zero, List.set_cons_succ]
          refine wpAnyH_ready (rs := [7]) (by kernel_rfl) (by simp) ?_
          refine AllReadyH.cons (o := { dst := some 64, op := Op.call { callee := Callee.value (Operand.func 54), args := #[Operand.tmp 60, Operand.tmp 63], argTypes := #[127, 3] }, type := 4, pos := "instr.go:64", after := #[{ on := 3, ground := Ground.data }, { on := 6, ground := Ground.data }, { on := 3, ground := Ground.chain }, { on := 1, ground := Ground.guard }], guard := some (1, true) }) rfl (fun K hK => ?_) AllReadyH.nil
          go_simp
          refine (HH2.out _).mono ?_
          rintro e wr ⟨rfl, hnq⟩
          go_wp2_with fail
          have hbx := hp1 hbx hnq
          have hn : (fun w' => New w w' ∧ w'.heap[wa.heap.size]? = some (.cells #[.int .i64 12, .int .i64 ln] 123)) wr := ⟨New.trans hn.1 hnq, hp1 hn.2 hnq⟩
          refine hK.out _ _ (by first | exact hn | exact Upd.alloc hn _) (fun hn => ?_)
          clear hK K
          try simp only [Act.put, List.setIfInBounds_toArray, List.set_cons_zero, List.set_cons_succ]
          refine wpAnyH_take (i := 8) (oi := { dst := some 65, op := Op.pick (Operand.tmp 58) (Operand.tmp 64) (Operand.const (Value.bool false)), type := 4, pos := "instr.go:64", after := #[{ on := 1, ground := Ground.data }, { on := 7, ground := Ground.data }], guard := none }) (v := ?v9x20) rfl (by kernel_rfl) (by kernel_rfl) (by kernel_rfl) (fun _ _ _ h => h) (Or.inl ⟨by rfl, ?y9x20⟩) hn ?r9x20
          case y9x20 => (intro wS hS; (try go_simp); (try with_reducible rfl))
          try simp only [Act.put, List.setIfInBounds_toArray, List.set_cons_zero, List.set_cons_succ]
          refine wpAnyH_take (i := 9) (oi := { dst := some 66, op := Op.move (Operand.tmp 65), type := 4, pos := "instr.go:64", after := #[{ on := 8, ground := Ground.data }, { on := 7, ground := Ground.chain }], guard := none }) (v := ?v9x21) rfl (by kernel_rfl) (by kernel_rfl) (by kernel_rfl) (fun _ _ _ h => h) (Or.inl ⟨by rfl, ?y9x21⟩) hn ?r9x21
          case y9x21 => (intro wS hS; (try go_simp); (try with_reducible rfl))
          try simp only [Act.put, List.setIfInBounds_toArray, List.set_cons_zero, List.set_cons_succ]
          refine wpAnyH_take (i := 10) (oi := { dst := some 67, op := Op.fieldAddr 123 (Operand.tmp 3) 0, type := 0, pos := "instr.go:64", after := #[{ on := 9, ground := Ground.guard }], guard := some (9, true) }) (v := undef) rfl (by kernel_rfl) (by kernel_rfl) (by kernel_rfl) (fun _ _ _ h => h) (Or.inr ⟨by rfl, rfl⟩) hn ?_
          try simp only [Act.put, List.setIfInBounds_toArray, List.set_cons_zero, List.set_cons_succ]
          refine wpAnyH_take (i := 11) (oi := { dst := some 68, op := Op.load 3 (Operand.tmp 67), type := 3, pos := "instr.go:64", after := #[{ on := 10, ground := Ground.data }, { on := 9, ground := Ground.guard }], guard := some (9, true) }) (v := undef) rfl (by kernel_rfl) (by kernel_rfl) (by kernel_rfl) (fun _ _ _ h => h) (Or.inr ⟨by rfl, rfl⟩) hn ?_
          try simp only [Act.put, List.setIfInBounds_toArray, List.set_cons_zero, List.set_cons_succ]
          refine wpAnyH_take (i := 12) (oi := { dst := some 69, op := Op.binOp BinOp.neq 3 (Operand.tmp 68) (Operand.const (Value.int IntKind.i64 14)) 3, type := 4, pos := "instr.go:64", after := #[{ on := 11, ground := Ground.data }, { on := 9, ground := Ground.guard }], guard := some (9, true) }) (v := undef) rfl (by kernel_rfl) (by kernel_rfl) (by kernel_rfl) (fun _ _ _ h => h) (Or.inr ⟨by rfl, rfl⟩) hn ?_
          try simp only [Act.put, List.setIfInBounds_toArray, List.set_cons_zero, List.set_cons_succ]
          refine wpAnyH_take (i := 13) (oi := { dst := some 70, op := Op.move (Operand.tmp 69), type := 4, pos := "instr.go:64", after := #[{ on := 12, ground := Ground.data }, { on := 9, ground := Ground.chain }, { on := 9, ground := Ground.guard }], guard := some (9, true) }) (v := undef) rfl (by kernel_rfl) (by kernel_rfl) (by kernel_rfl) (fun _ _ _ h => h) (Or.inr ⟨by rfl, rfl⟩) hn ?_
          try simp only [Act.put, List.setIfInBounds_toArray, List.set_cons_zero, List.set_cons_succ]
          refine wpAnyH_take (i := 14) (oi := { dst := some 71, op := Op.fieldAddr 93 (Operand.tmp 1) 6, type := 0, pos := "instr.go:64", after := #[{ on := 13, ground := Ground.guard }], guard := some (13, false) }) (v := undef) rfl (by kernel_rfl) (by kernel_rfl) (by kernel_rfl) (fun _ _ _ h => h) (Or.inr ⟨by rfl, rfl⟩) hn ?_
          try simp only [Act.put, List.setIfInBounds_toArray, List.set_cons_zero, List.set_cons_succ]
          refine wpAnyH_take (i := 15) (oi := { dst := some 72, op := Op.load 9 (Operand.tmp 71), type := 9, pos := "instr.go:64", after := #[{ on := 14, ground := Ground.data }, { on := 13, ground := Ground.guard }], guard := some (13, false) }) (v := undef) rfl (by kernel_rfl) (by kernel_rfl) (by kernel_rfl) (fun _ _ _ h => h) (Or.inr ⟨by rfl, rfl⟩) hn ?_
          try simp only [Act.put, List.setIfInBounds_toArray, List.set_cons_zero, List.set_cons_succ]
          refine wpAnyH_take (i := 16) (oi := { dst := some 73, op := Op.call { callee := Callee.value (Operand.func 55), args := #[Operand.tmp 72], argTypes := #[9] }, type := 4, pos := "instr.go:64", after := #[{ on := 15, ground := Ground.data }, { on := 13, ground := Ground.chain }, { on := 13, ground := Ground.guard }], guard := some (13, false) }) (v := undef) rfl (by kernel_rfl) (by kernel_rfl) (by kernel_rfl) (fun _ _ _ h => h) (Or.inr ⟨by rfl, rfl⟩) hn ?_
          try simp only [Act.put, List.setIfInBounds_toArray, List.set_cons_zero, List.set_cons_succ]
          refine wpAnyH_take (i := 17) (oi := { dst := some 74, op := Op.pick (Operand.tmp 70) (Operand.const (Value.bool true)) (Operand.tmp 73), type := 4, pos := "instr.go:64", after := #[{ on := 13, ground := Ground.data }, { on := 16, ground := Ground.data }, { on := 9, ground := Ground.guard }], guard := some (9, true) }) (v := undef) rfl (by kernel_rfl) (by kernel_rfl) (by kernel_rfl) (fun _ _ _ h => h) (Or.inr ⟨by rfl, rfl⟩) hn ?_
          try simp only [Act.put, List.setIfInBounds_toArray, List.set_cons_zero, List.set_cons_succ]
          refine wpAnyH_take (i := 18) (oi := { dst := some 75, op := Op.pick (Operand.tmp 66) (Operand.tmp 74) (Operand.const (Value.bool false)), type := 4, pos := "instr.go:64", after := #[{ on := 9, ground := Ground.data }, { on := 17, ground := Ground.data }], guard := none }) (v := ?v9x30) rfl (by kernel_rfl) (by kernel_rfl) (by kernel_rfl) (fun _ _ _ h => h) (Or.inl ⟨by rfl, ?y9x30⟩) hn ?r9x30
          case y9x30 => (intro wS hS; (try go_simp); (try with_reducible rfl))
          try simp only [Act.put, List.setIfInBounds_toArray, List.set_cons_zero, List.set_cons_succ]
          refine wpAnyH_take (i := 19) (oi := { dst := some 4, op := Op.assign (Operand.tmp 75), type := 4, pos := "instr.go:64", after := #[{ on := 18, ground := Ground.data }, { on := 16, ground := Ground.chain }, { on := 0, ground := Ground.phase }, { on := 1, ground := Ground.phase }, { on := 2, ground := Ground.phase }, { on := 3, ground := Ground.phase }, { on := 4, ground := Ground.phase }, { on := 5, ground := Ground.phase }, { on := 6, ground := Ground.phase }, { on := 7, ground := Ground.phase }, { on := 8, ground := Ground.phase }, { on := 9, ground := Ground.phase }, { on := 10, ground := Ground.phase }, { on := 11, ground := Ground.phase }, { on := 12, ground := Ground.phase }, { on := 13, ground := Ground.phase }, { on := 14, ground := Ground.phase }, { on := 15, ground := Ground.phase }, { on := 16, ground := Ground.phase }, { on := 17, ground := Ground.phase }, { on := 18, ground := Ground.phase }], guard := none }) (v := ?v9x31) rfl (by kernel_rfl) (by kernel_rfl) (by kernel_rfl) (fun _ _ _ h => h) (Or.inl ⟨by rfl, ?y9x31⟩) hn ?r9x31
          case y9x31 => (intro wS hS; (try go_simp); (try with_reducible rfl))
          try simp only [Act.put, List.setIfInBounds_toArray, List.set_cons_zero, List.set_cons_succ]
          refine wpAnyH_take (i := 20) (oi := { dst := some 76, op := Op.fieldAddr 93 (Operand.tmp 1) 6, type := 0, pos := "instr.go:64", after := #[{ on := 0, ground := Ground.phase }, { on := 1, ground := Ground.phase }, { on := 2, ground := Ground.phase }, { on := 3, ground := Ground.phase }, { on := 4, ground := Ground.phase }, { on := 5, ground := Ground.phase }, { on := 6, ground := Ground.phase }, { on := 7, ground := Ground.phase }, { on := 8, ground := Ground.phase }, { on := 9, ground := Ground.phase }, { on := 10, ground := Ground.phase }, { on := 11, ground := Ground.phase }, { on := 12, ground := Ground.phase }, { on := 13, ground := Ground.phase }, { on := 14, ground := Ground.phase }, { on := 15, ground := Ground.phase }, { on := 16, ground := Ground.phase }, { on := 17, ground := Ground.phase }, { on := 18, ground := Ground.phase }, { on := 19, ground := Ground.phase }], guard := none }) (v := ?v9x32) rfl (by kernel_rfl) (by kernel_rfl) (by kernel_rfl) (fun _ _ _ h => h) (Or.inl ⟨by rfl, ?y9x32⟩) hn ?r9x32
          case y9x32 => (intro wS hS; (try go_simp); (try with_reducible rfl))
          try simp only [Act.put, List.setIfInBounds_toArray, List.set_cons_zero, List.set_cons_succ]
          refine wpAnyH_ready (rs := [21]) (by kernel_rfl) (by simp) ?_
          refine AllReadyH.cons (o := { dst := none, op := Op.store 9 (Operand.tmp 76) (Operand.const (Value.string { data := #[] })), type := 0, pos := "instr.go:64", after := #[{ on := 20, ground := Ground.data }, { on := 19, ground := Ground.chain }, { on := 0, ground := Ground.phase }, { on := 1, ground := Ground.phase }, { on := 2, ground := Ground.phase }, { on := 3, ground := Ground.phase }, { on := 4, ground := Ground.phase }, { on := 5, ground := Ground.phase }, { on := 6, ground := Ground.phase }, { on := 7, ground := Ground.phase }, { on := 8, ground := Ground.phase }, { on := 9, ground := Ground.phase }, { on := 10, ground := Ground.phase }, { on := 11, ground := Ground.phase }, { on := 12, ground := Ground.phase }, { on := 13, ground := Ground.phase }, { on := 14, ground := Ground.phase }, { on := 15, ground := Ground.phase }, { on := 16, ground := Ground.phase }, { on := 17, ground := Ground.phase }, { on := 18, ground := Ground.phase }, { on := 19, ground := Ground.phase }], guard := none }) rfl (fun K hK => ?_) AllReadyH.nil
          have z9 := cellAt hbx 9 (v := .string raw) rfl
          have f9 := frozenAt hbx 9
          go_simp
          have hbx := hp_set hbx 9 (.string ⟨#[]⟩)
          have hn : (fun w' => New w w' ∧ w'.heap[wa.heap.size]? = some (.cells #[.int .i64 12, .int .i64 ln] 123)) (wr.setCell ⟨w.heap.size, 9, none⟩ (.string ⟨#[]⟩)) := ⟨setNew hn.1 9 _, hp_other hn.2 HNE.out⟩
          refine hK.out _ _ (by first | exact hn | exact Upd.alloc hn _) (fun hn => ?_)
          clear hK K
          try simp only [Act.put, List.setIfInBounds_toArray, List.set_cons_zero, List.set_cons_succ]
          refine wpAnyH_done (by kernel_rfl) ?_ _
          refine NoPanic.normal ?_
          go_wp2_with fail
          go_meet
          exact ⟨_, (.slice al li.length cl), (.slice au (lb ty).length cu), rfl, (by have h := has_ne HBH.out; simp [ownQ, h]), hbx, hn.1, HL.out.new hn.1, HU.out.new hn.1⟩
      · -- 13
        have HS2 := hid (fun l w => HSP.out 13 l w)
        rw [spanV_13] at HS2
        have HH2 := hid (fun w => HHA.out 16 16 raw.size w)
        obtain ⟨bh, hbh⟩ : ∃ bh, Span.has 16 16 raw.size = bh := ⟨_, rfl⟩
        rw [hbh] at HH2
        have y0 : wb.cell? ⟨wa.heap.size, 0, none⟩ = some (.int .i64 13) := cellAt HI.out 0 rfl
        have y1 : wb.cell? ⟨wa.heap.size, 1, none⟩ = some (.int .i64 ln) := cellAt HI.out 1 rfl
        have z9 : wb.cell? ⟨w.heap.size, 9, none⟩ = some (.string raw) := cellAt HB.out 9 rfl
        have f9 : wb.frozen? ⟨w.heap.size, 9, none⟩ = false := frozenAt HB.out 9
        have HBH := hid hbh
        clear hbh
        cases bh with
        | true =>
          have hn : (fun w' => New w w' ∧ w'.heap[wa.heap.size]? = some (.cells #[.int .i64 13, .int .i64 ln] 123)) wb.drew := ⟨HN.out.drew, HI.out⟩
          have hbx : Box wb.drew w.heap.size ⟨p, c, k, t, i, x, y, li, n, raw, lane, ty⟩ (.slice al li.length cl) (.slice au (lb ty).length cu) := HB.out
          clear y0 y1 z9 f9
          go_wp2_with fail
          refine wp_region_noPanic ?_
          refine wp_region_held_drew (S := (fun w' => New w w' ∧ w'.heap[wa.heap.size]? = some (.cells #[.int .i64 13, .int .i64 ln] 123))) (by kernel_rfl) (by first | exact hn | exact (Upd.refl _ _).drew | exact Upd.drew (by assumption)) (fun hn => ?_)
          generalize wb.drew = wd at *
          refine wpAnyH_take (i := 0) (oi := { dst := some 57, op := Op.move (Operand.tmp 4), type := 4, pos := "instr.go:64", after := #[], guard := none }) (v := ?v10x1) rfl (by kernel_rfl) (by kernel_rfl) (by kernel_rfl) (fun _ _ _ h => h) (Or.inl ⟨by rfl, ?y10x1⟩) hn ?r10x1
          case y10x1 => (intro wS hS; (try go_simp); (try with_reducible rfl))
          try simp only [Act.put, List.setIfInBounds_toArray, List.set_cons_zero, List.set_cons_succ]
          refine wpAnyH_take (i := 1) (oi := { dst := some 58, op := Op.move (Operand.tmp 57), type := 4, pos := "instr.go:64", after := #[{ on := 0, ground := Ground.data }], guard := none }) (v := ?v10x2) rfl (by kernel_rfl) (by kernel_rfl) (by kernel_rfl) (fun _ _ _ h => h) (Or.inl ⟨by rfl, ?y10x2⟩) hn ?r10x2
          case y10x2 => (intro wS hS; (try go_simp); (try with_reducible rfl))
          try simp only [Act.put, List.setIfInBounds_toArray, List.set_cons_zero, List.set_cons_succ]
          refine wpAnyH_take (i := 2) (oi := { dst := some 59, op := Op.load 123 (Operand.tmp 3), type := 123, pos := "instr.go:64", after := #[{ on := 1, ground := Ground.guard }], guard := some (1, true) }) (v := ?v10x3) rfl (by kernel_rfl) (by kernel_rfl) (by kernel_rfl) (fun _ _ _ h => h) (Or.inl ⟨by rfl, ?y10x3⟩) hn ?r10x3
          case y10x3 => (intro wS hS; have c0 := cellAt hS.2 0 rfl; have c1 := cellAt hS.2 1 rfl; (try go_simp); (try with_reducible rfl))
          try simp only [Act.put, List.setIfInBounds_toArray, List.set_cons_zero, List.set_cons_succ]
          refine wpAnyH_take (i := 4) (oi := { dst := some 61, op := Op.fieldAddr 93 (Operand.tmp 1) 6, type := 0, pos := "instr.go:64", after := #[{ on := 1, ground := Ground.guard }], guard := some (1, true) }) (v := ?v10x4) rfl (by kernel_rfl) (by kernel_rfl) (by kernel_rfl) (fun _ _ _ h => h) (Or.inl ⟨by rfl, ?y10x4⟩) hn ?r10x4
          case y10x4 => (intro wS hS; (try go_simp); (try with_reducible rfl))
          try simp only [Act.put, List.setIfInBounds_toArray, List.set_cons_zero, List.set_cons_succ]
          refine wpAnyH_ready (rs := [3, 5]) (by kernel_rfl) (by simp) ?_
          refine AllReadyH.cons (o := { dst := some 60, op := Op.call { callee := Callee.value (Operand.func 53), args := #[Operand.tmp 59], argTypes := #[123] }, type := 127, pos := "instr.go:64", after := #[{ on := 2, ground := Ground.data }, { on := 1, ground := Ground.chain }, { on := 1, ground := Ground.guard }], guard := some (1, true) }) rfl (fun K hK => ?_) ?_
          · skip
            go_simp
            refine (HS2.out _ _).mono ?_
            rintro e wq ⟨rfl, hnq⟩
            go_wp2_with fail
            have hbx := hp1 hbx hnq
            have hn : (fun w' => New w w' ∧ w'.heap[wa.heap.size]? = some (.cells #[.int .i64 13, .int .i64 ln] 123)) wq := ⟨New.trans hn.1 hnq, hp1 hn.2 hnq⟩
            refine hK.out _ _ (by first | exact hn | exact Upd.alloc hn _) (fun hn => ?_)
            clear hK K
            try simp only [Act.put, List.setIfInBounds_toArray, List.set_cons_zero, List.set_cons_succ]
            refine wpAnyH_ready (rs := [5]) (by kernel_rfl) (by simp) ?_
            refine AllReadyH.cons (o := { dst := some 62, op := Op.load 9 (Operand.tmp 61), type := 9, pos := "instr.go:64", after := #[{ on := 4, ground := Ground.data }, { on := 1, ground := Ground.guard }], guard := some (1, true) }) rfl (fun K hK => ?_) AllReadyH.nil
            have z9 := cellAt hbx 9 (v := .string raw) rfl
            go_simp
            refine hK.out _ _ (by first | exact hn | exact Upd.alloc hn _) (fun hn => ?_)
            clear hK K
            try simp only [Act.put, List.setIfInBounds_toArray, List.set_cons_zero, List.set_cons_succ]
            refine wpAnyH_take (i := 6) (oi := { dst := some 63, op := Op.call { callee := Callee.builtin Builtin.len, args := #[Operand.tmp 62], argTypes := #[9] }, type := 3, pos := "instr.go:64", after := #[{ on := 5, ground := Ground.data }, { on := 1, ground := Ground.guard }], guard := some (1, true) }) (v := ?v10x5) rfl (by kernel_rfl) (by kernel_rfl) (by kernel_rfl) (fun _ _ _ h => h) (Or.inl ⟨by rfl, ?y10x5⟩) hn ?r10x5
            case y10x5 => (intro wS hS; (try go_simp); (try with_reducible rfl))
            try simp only [Act.put, List.setIfInBounds_toArray, List.set_cons_zero, List.set_cons_succ]
            refine wpAnyH_ready (rs := [7]) (by kernel_rfl) (by simp) ?_
            refine AllReadyH.cons (o := { dst := some 64, op := Op.call { callee := Callee.value (Operand.func 54), args := #[Operand.tmp 60, Operand.tmp 63], argTypes := #[127, 3] }, type := 4, pos := "instr.go:64", after := #[{ on := 3, ground := Ground.data }, { on := 6, ground := Ground.data }, { on := 3, ground := Ground.chain }, { on := 1, ground := Ground.guard }], guard := some (1, true) }) rfl (fun K hK => ?_) AllReadyH.nil
            go_simp
            refine (HH2.out _).mono ?_
            rintro e wr ⟨rfl, hnq⟩
            go_wp2_with fail
            have hbx := hp1 hbx hnq
            have hn : (fun w' => New w w' ∧ w'.heap[wa.heap.size]? = some (.cells #[.int .i64 13, .int .i64 ln] 123)) wr := ⟨New.trans hn.1 hnq, hp1 hn.2 hnq⟩
            refine hK.out _ _ (by first | exact hn | exact Upd.alloc hn _) (fun hn => ?_)
            clear hK K
            try simp only [Act.put, List.setIfInBounds_toArray, List.set_cons_zero, List.set_cons_succ]
            refine wpAnyH_take (i := 8) (oi := { dst := some 65, op := Op.pick (Operand.tmp 58) (Operand.tmp 64) (Operand.const (Value.bool false)), type := 4, pos := "instr.go:64", after := #[{ on := 1, ground := Ground.data }, { on := 7, ground := Ground.data }], guard := none }) (v := ?v10x6) rfl (by kernel_rfl) (by kernel_rfl) (by kernel_rfl) (fun _ _ _ h => h) (Or.inl ⟨by rfl, ?y10x6⟩) hn ?r10x6
            case y10x6 => (intro wS hS; (try go_simp); (try with_reducible rfl))
            try simp only [Act.put, List.setIfInBounds_toArray, List.set_cons_zero, List.set_cons_succ]
            refine wpAnyH_take (i := 9) (oi := { dst := some 66, op := Op.move (Operand.tmp 65), type := 4, pos := "instr.go:64", after := #[{ on := 8, ground := Ground.data }, { on := 7, ground := Ground.chain }], guard := none }) (v := ?v10x7) rfl (by kernel_rfl) (by kernel_rfl) (by kernel_rfl) (fun _ _ _ h => h) (Or.inl ⟨by rfl, ?y10x7⟩) hn ?r10x7
            case y10x7 => (intro wS hS; (try go_simp); (try with_reducible rfl))
            try simp only [Act.put, List.setIfInBounds_toArray, List.set_cons_zero, List.set_cons_succ]
            refine wpAnyH_take (i := 10) (oi := { dst := some 67, op := Op.fieldAddr 123 (Operand.tmp 3) 0, type := 0, pos := "instr.go:64", after := #[{ on := 9, ground := Ground.guard }], guard := some (9, true) }) (v := ?v10x8) rfl (by kernel_rfl) (by kernel_rfl) (by kernel_rfl) (fun _ _ _ h => h) (Or.inl ⟨by rfl, ?y10x8⟩) hn ?r10x8
            case y10x8 => (intro wS hS; (try go_simp); (try with_reducible rfl))
            try simp only [Act.put, List.setIfInBounds_toArray, List.set_cons_zero, List.set_cons_succ]
            refine wpAnyH_take (i := 11) (oi := { dst := some 68, op := Op.load 3 (Operand.tmp 67), type := 3, pos := "instr.go:64", after := #[{ on := 10, ground := Ground.data }, { on := 9, ground := Ground.guard }], guard := some (9, true) }) (v := ?v10x9) rfl (by kernel_rfl) (by kernel_rfl) (by kernel_rfl) (fun _ _ _ h => h) (Or.inl ⟨by rfl, ?y10x9⟩) hn ?r10x9
            case y10x9 => (intro wS hS; have c0 := cellAt hS.2 0 rfl; (try go_simp); (try with_reducible rfl))
            try simp only [Act.put, List.setIfInBounds_toArray, List.set_cons_zero, List.set_cons_succ]
            refine wpAnyH_take (i := 12) (oi := { dst := some 69, op := Op.binOp BinOp.neq 3 (Operand.tmp 68) (Operand.const (Value.int IntKind.i64 14)) 3, type := 4, pos := "instr.go:64", after := #[{ on := 11, ground := Ground.data }, { on := 9, ground := Ground.guard }], guard := some (9, true) }) (v := ?v10x10) rfl (by kernel_rfl) (by kernel_rfl) (by kernel_rfl) (fun _ _ _ h => h) (Or.inl ⟨by rfl, ?y10x10⟩) hn ?r10x10
            case y10x10 => (intro wS hS; (try go_simp); (try with_reducible rfl))
            try simp only [Act.put, List.setIfInBounds_toArray, List.set_cons_zero, List.set_cons_succ]
            refine wpAnyH_take (i := 13) (oi := { dst := some 70, op := Op.move (Operand.tmp 69), type := 4, pos := "instr.go:64", after := #[{ on := 12, ground := Ground.data }, { on := 9, ground := Ground.chain }, { on := 9, ground := Ground.guard }], guard := some (9, true) }) (v := ?v10x11) rfl (by kernel_rfl) (by kernel_rfl) (by kernel_rfl) (fun _ _ _ h => h) (Or.inl ⟨by rfl, ?y10x11⟩) hn ?r10x11
            case y10x11 => (intro wS hS; (try go_simp); (try with_reducible rfl))
            try simp only [Act.put, List.setIfInBounds_toArray, List.set_cons_zero, List.set_cons_succ]
            refine wpAnyH_take (i := 14) (oi := { dst := some 71, op := Op.fieldAddr 93 (Operand.tmp 1) 6, type := 0, pos := "instr.go:64", after := #[{ on := 13, ground := Ground.guard }], guard := some (13, false) }) (v := undef) rfl (by kernel_rfl) (by kernel_rfl) (by kernel_rfl) (fun _ _ _ h => h) (Or.inr ⟨by rfl, rfl⟩) hn ?_
            try simp only [Act.put, List.setIfInBounds_toArray, List.set_cons_zero, List.set_cons_succ]
            refine wpAnyH_take (i := 15) (oi := { dst := some 72, op := Op.load 9 (Operand.tmp 71), type := 9, pos := "instr.go:64", after := #[{ on := 14, ground := Ground.data }, { on := 13, ground := Ground.guard }], guard := some (13, false) }) (v := undef) rfl (by kernel_rfl) (by kernel_rfl) (by kernel_rfl) (fun _ _ _ h => h) (Or.inr ⟨by rfl, rfl⟩) hn ?_
            try simp only [Act.put, List.setIfInBounds_toArray, List.set_cons_zero, List.set_cons_succ]
            refine wpAnyH_take (i := 16) (oi := { dst := some 73, op := Op.call { callee := Callee.value (Operand.func 55), args := #[Operand.tmp 72], argTypes := #[9] }, type := 4, pos := "instr.go:64", after := #[{ on := 15, ground := Ground.data }, { on := 13, ground := Ground.chain }, { on := 13, ground := Ground.guard }], guard := some (13, false) }) (v := undef) rfl (by kernel_rfl) (by kernel_rfl) (by kernel_rfl) (fun _ _ _ h => h) (Or.inr ⟨by rfl, rfl⟩) hn ?_
            try simp only [Act.put, List.setIfInBounds_toArray, List.set_cons_zero, List.set_cons_succ]
            refine wpAnyH_take (i := 17) (oi := { dst := some 74, op := Op.pick (Operand.tmp 70) (Operand.const (Value.bool true)) (Operand.tmp 73), type := 4, pos := "instr.go:64", after := #[{ on := 13, ground := Ground.data }, { on := 16, ground := Ground.data }, { on := 9, ground := Ground.guard }], guard := some (9, true) }) (v := ?v10x15) rfl (by kernel_rfl) (by kernel_rfl) (by kernel_rfl) (fun _ _ _ h => h) (Or.inl ⟨by rfl, ?y10x15⟩) hn ?r10x15
            case y10x15 => (intro wS hS; (try go_simp); (try with_reducible rfl))
            try simp only [Act.put, List.setIfInBounds_toArray, List.set_cons_zero, List.set_cons_succ]
            refine wpAnyH_take (i := 18) (oi := { dst := some 75, op := Op.pick (Operand.tmp 66) (Operand.tmp 74) (Operand.const (Value.bool false)), type := 4, pos := "instr.go:64", after := #[{ on := 9, ground := Ground.data }, { on := 17, ground := Ground.data }], guard := none }) (v := ?v10x16) rfl (by kernel_rfl) (by kernel_rfl) (by kernel_rfl) (fun _ _ _ h => h) (Or.inl ⟨by rfl, ?y10x16⟩) hn ?r10x16
            case y10x16 => (intro wS hS; (try go_simp); (try with_reducible rfl))
            try simp only [Act.put, List.setIfInBounds_toArray, List.set_cons_zero, List.set_cons_succ]
            refine wpAnyH_take (i := 19) (oi := { dst := some 4, op := Op.assign (Operand.tmp 75), type := 4, pos := "instr.go:64", after := #[{ on := 18, ground := Ground.data }, { on := 16, ground := Ground.chain }, { on := 0, ground := Ground.phase }, { on := 1, ground := Ground.phase }, { on := 2, ground := Ground.phase }, { on := 3, ground := Ground.phase }, { on := 4, ground := Ground.phase }, { on := 5, ground := Ground.phase }, { on := 6, ground := Ground.phase }, { on := 7, ground := Ground.phase }, { on := 8, ground := Ground.phase }, { on := 9, ground := Ground.phase }, { on := 10, ground := Ground.phase }, { on := 11, ground := Ground.phase }, { on := 12, ground := Ground.phase }, { on := 13, ground := Ground.phase }, { on := 14, ground := Ground.phase }, { on := 15, ground := Ground.phase }, { on := 16, ground := Ground.phase }, { on := 17, ground := Ground.phase }, { on := 18, ground := Ground.phase }], guard := none }) (v := ?v10x17) rfl (by kernel_rfl) (by kernel_rfl) (by kernel_rfl) (fun _ _ _ h => h) (Or.inl ⟨by rfl, ?y10x17⟩) hn ?r10x17
            case y10x17 => (intro wS hS; (try go_simp); (try with_reducible rfl))
            try simp only [Act.put, List.setIfInBounds_toArray, List.set_cons_zero, List.set_cons_succ]
            refine wpAnyH_take (i := 20) (oi := { dst := some 76, op := Op.fieldAddr 93 (Operand.tmp 1) 6, type := 0, pos := "instr.go:64", after := #[{ on := 0, ground := Ground.phase }, { on := 1, ground := Ground.phase }, { on := 2, ground := Ground.phase }, { on := 3, ground := Ground.phase }, { on := 4, ground := Ground.phase }, { on := 5, ground := Ground.phase }, { on := 6, ground := Ground.phase }, { on := 7, ground := Ground.phase }, { on := 8, ground := Ground.phase }, { on := 9, ground := Ground.phase }, { on := 10, ground := Ground.phase }, { on := 11, ground := Ground.phase }, { on := 12, ground := Ground.phase }, { on := 13, ground := Ground.phase }, { on := 14, ground := Ground.phase }, { on := 15, ground := Ground.phase }, { on := 16, ground := Ground.phase }, { on := 17, ground := Ground.phase }, { on := 18, ground := Ground.phase }, { on := 19, ground := Ground.phase }], guard := none }) (v := ?v10x18) rfl (by kernel_rfl) (by kernel_rfl) (by kernel_rfl) (fun _ _ _ h => h) (Or.inl ⟨by rfl, ?y10x18⟩) hn ?r10x18
            case y10x18 => (intro wS hS; (try go_simp); (try with_reducible rfl))
            try simp only [Act.put, List.setIfInBounds_toArray, List.set_cons_zero, List.set_cons_succ]
            refine wpAnyH_ready (rs := [21]) (by kernel_rfl) (by simp) ?_
            refine AllReadyH.cons (o := { dst := none, op := Op.store 9 (Operand.tmp 76) (Operand.const (Value.string { data := #[] })), type := 0, pos := "instr.go:64", after := #[{ on := 20, ground := Ground.data }, { on := 19, ground := Ground.chain }, { on := 0, ground := Ground.phase }, { on := 1, ground := Ground.phase }, { on := 2, ground := Ground.phase }, { on := 3, ground := Ground.phase }, { on := 4, ground := Ground.phase }, { on := 5, ground := Ground.phase }, { on := 6, ground := Ground.phase }, { on := 7, ground := Ground.phase }, { on := 8, ground := Ground.phase }, { on := 9, ground := Ground.phase }, { on := 10, ground := Ground.phase }, { on := 11, ground := Ground.phase }, { on := 12, ground := Ground.phase }, { on := 13, ground := Ground.phase }, { on := 14, ground := Ground.phase }, { on := 15, ground := Ground.phase }, { on := 16, ground := Ground.phase }, { on := 17, ground := Ground.phase }, { on := 18, ground := Ground.phase }, { on := 19, ground := Ground.phase }], guard := none }) rfl (fun K hK => ?_) AllReadyH.nil
            have z9 := cellAt hbx 9 (v := .string raw) rfl
            have f9 := frozenAt hbx 9
            go_simp
            have hbx := hp_set hbx 9 (.string ⟨#[]⟩)
            have hn : (fun w' => New w w' ∧ w'.heap[wa.heap.size]? = some (.cells #[.int .i64 13, .int .i64 ln] 123)) (wr.setCell ⟨w.heap.size, 9, none⟩ (.string ⟨#[]⟩)) := ⟨setNew hn.1 9 _, hp_other hn.2 HNE.out⟩
            refine hK.out _ _ (by first | exact hn | exact Upd.alloc hn _) (fun hn => ?_)
            clear hK K
            try simp only [Act.put, List.setIfInBounds_toArray, List.set_cons_zero, List.set_cons_succ]
            refine wpAnyH_done (by kernel_rfl) ?_ _
            refine NoPanic.normal ?_
            go_wp2_with fail
            go_meet
            exact ⟨_, (.slice al li.length cl), (.slice au (lb ty).length cu), rfl, (by have h : raw.size = 16 := (by have := has_eq HBH.out; omega); simp [ownQ, h]), hbx, hn.1, HL.out.new hn.1, HU.out.new hn.1⟩
          refine AllReadyH.cons (o := { dst := some 62, op := Op.load 9 (Operand.tmp 61), type := 9, pos := "instr.go:64", after := #[{ on := 4, ground := Ground.data }, { on := 1, ground := Ground.guard }], guard := some (1, true) }) rfl (fun K hK => ?_) AllReadyH.nil
          have z9 := cellAt hbx 9 (v := .string raw) rfl
          go_simp
          refine hK.out _ _ (by first | exact hn | exact Upd.alloc hn _) (fun hn => ?_)
          clear hK K
          try simp only [Act.put, List.setIfInBounds_toArray, List.set_cons_zero, List.set_cons_succ]
          refine wpAnyH_take (i := 6) (oi := { dst := some 63, op := Op.call { callee := Callee.builtin Builtin.len, args := #[Operand.tmp 62], argTypes := #[9] }, type := 3, pos := "instr.go:64", after := #[{ on := 5, ground := Ground.data }, { on := 1, ground := Ground.guard }], guard := some (1, true) }) (v := ?v10x19) rfl (by kernel_rfl) (by kernel_rfl) (by kernel_rfl) (fun _ _ _ h => h) (Or.inl ⟨by rfl, ?y10x19⟩) hn ?r10x19
          case y10x19 => (intro wS hS; (try go_simp); (try with_reducible rfl))
          try simp only [Act.put, List.setIfInBounds_toArray, List.set_cons_zero, List.set_cons_succ]
          refine wpAnyH_ready (rs := [3]) (by kernel_rfl) (by simp) ?_
          refine AllReadyH.cons (o := { dst := some 60, op := Op.call { callee := Callee.value (Operand.func 53), args := #[Operand.tmp 59], argTypes := #[123] }, type := 127, pos := "instr.go:64", after := #[{ on := 2, ground := Ground.data }, { on := 1, ground := Ground.chain }, { on := 1, ground := Ground.guard }], guard := some (1, true) }) rfl (fun K hK => ?_) AllReadyH.nil
          go_simp
          refine (HS2.out _ _).mono ?_
          rintro e wq ⟨rfl, hnq⟩
          go_wp2_with fail
          have hbx := hp1 hbx hnq
          have hn : (fun w' => New w w' ∧ w'.heap[wa.heap.size]? = some (.cells #[.int .i64 13, .int .i64 ln] 123)) wq := ⟨New.trans hn.1 hnq, hp1 hn.2 hnq⟩
          refine hK.out _ _ (by first | exact hn | exact Upd.alloc hn _) (fun hn => ?_)
          clear hK K
          try simp only [Act.put, List.setIfInBounds_toArray, List.set_cons_zero, List.set_cons_succ]
          refine wpAnyH_ready (rs := [7]) (by kernel_rfl) (by simp) ?_
          refine AllReadyH.cons (o := { dst := some 64, op := Op.call { callee := Callee.value (Operand.func 54), args := #[Operand.tmp 60, Operand.tmp 63], argTypes := #[127, 3] }, type := 4, pos := "instr.go:64", after := #[{ on := 3, ground := Ground.data }, { on := 6, ground := Ground.data }, { on := 3, ground := Ground.chain }, { on := 1, ground := Ground.guard }], guard := some (1, true) }) rfl (fun K hK => ?_) AllReadyH.nil
          go_simp
          refine (HH2.out _).mono ?_
          rintro e wr ⟨rfl, hnq⟩
          go_wp2_with fail
          have hbx := hp1 hbx hnq
          have hn : (fun w' => New w w' ∧ w'.heap[wa.heap.size]? = some (.cells #[.int .i64 13, .int .i64 ln] 123)) wr := ⟨New.trans hn.1 hnq, hp1 hn.2 hnq⟩
          refine hK.out _ _ (by first | exact hn | exact Upd.alloc hn _) (fun hn => ?_)
          clear hK K
          try simp only [Act.put, List.setIfInBounds_toArray, List.set_cons_zero, List.set_cons_succ]
          refine wpAnyH_take (i := 8) (oi := { dst := some 65, op := Op.pick (Operand.tmp 58) (Operand.tmp 64) (Operand.const (Value.bool false)), type := 4, pos := "instr.go:64", after := #[{ on := 1, ground := Ground.data }, { on := 7, ground := Ground.data }], guard := none }) (v := ?v10x20) rfl (by kernel_rfl) (by kernel_rfl) (by kernel_rfl) (fun _ _ _ h => h) (Or.inl ⟨by rfl, ?y10x20⟩) hn ?r10x20
          case y10x20 => (intro wS hS; (try go_simp); (try with_reducible rfl))
          try simp only [Act.put, List.setIfInBounds_toArray, List.set_cons_zero, List.set_cons_succ]
          refine wpAnyH_take (i := 9) (oi := { dst := some 66, op := Op.move (Operand.tmp 65), type := 4, pos := "instr.go:64", after := #[{ on := 8, ground := Ground.data }, { on := 7, ground := Ground.chain }], guard := none }) (v := ?v10x21) rfl (by kernel_rfl) (by kernel_rfl) (by kernel_rfl) (fun _ _ _ h => h) (Or.inl ⟨by rfl, ?y10x21⟩) hn ?r10x21
          case y10x21 => (intro wS hS; (try go_simp); (try with_reducible rfl))
          try simp only [Act.put, List.setIfInBounds_toArray, List.set_cons_zero, List.set_cons_succ]
          refine wpAnyH_take (i := 10) (oi := { dst := some 67, op := Op.fieldAddr 123 (Operand.tmp 3) 0, type := 0, pos := "instr.go:64", after := #[{ on := 9, ground := Ground.guard }], guard := some (9, true) }) (v := ?v10x22) rfl (by kernel_rfl) (by kernel_rfl) (by kernel_rfl) (fun _ _ _ h => h) (Or.inl ⟨by rfl, ?y10x22⟩) hn ?r10x22
          case y10x22 => (intro wS hS; (try go_simp); (try with_reducible rfl))
          try simp only [Act.put, List.setIfInBounds_toArray, List.set_cons_zero, List.set_cons_succ]
          refine wpAnyH_take (i := 11) (oi := { dst := some 68, op := Op.load 3 (Operand.tmp 67), type := 3, pos := "instr.go:64", after := #[{ on := 10, ground := Ground.data }, { on := 9, ground := Ground.guard }], guard := some (9, true) }) (v := ?v10x23) rfl (by kernel_rfl) (by kernel_rfl) (by kernel_rfl) (fun _ _ _ h => h) (Or.inl ⟨by rfl, ?y10x23⟩) hn ?r10x23
          case y10x23 => (intro wS hS; have c0 := cellAt hS.2 0 rfl; (try go_simp); (try with_reducible rfl))
          try simp only [Act.put, List.setIfInBounds_toArray, List.set_cons_zero, List.set_cons_succ]
          refine wpAnyH_take (i := 12) (oi := { dst := some 69, op := Op.binOp BinOp.neq 3 (Operand.tmp 68) (Operand.const (Value.int IntKind.i64 14)) 3, type := 4, pos := "instr.go:64", after := #[{ on := 11, ground := Ground.data }, { on := 9, ground := Ground.guard }], guard := some (9, true) }) (v := ?v10x24) rfl (by kernel_rfl) (by kernel_rfl) (by kernel_rfl) (fun _ _ _ h => h) (Or.inl ⟨by rfl, ?y10x24⟩) hn ?r10x24
          case y10x24 => (intro wS hS; (try go_simp); (try with_reducible rfl))
          try simp only [Act.put, List.setIfInBounds_toArray, List.set_cons_zero, List.set_cons_succ]
          refine wpAnyH_take (i := 13) (oi := { dst := some 70, op := Op.move (Operand.tmp 69), type := 4, pos := "instr.go:64", after := #[{ on := 12, ground := Ground.data }, { on := 9, ground := Ground.chain }, { on := 9, ground := Ground.guard }], guard := some (9, true) }) (v := ?v10x25) rfl (by kernel_rfl) (by kernel_rfl) (by kernel_rfl) (fun _ _ _ h => h) (Or.inl ⟨by rfl, ?y10x25⟩) hn ?r10x25
          case y10x25 => (intro wS hS; (try go_simp); (try with_reducible rfl))
          try simp only [Act.put, List.setIfInBounds_toArray, List.set_cons_zero, List.set_cons_succ]
          refine wpAnyH_take (i := 14) (oi := { dst := some 71, op := Op.fieldAddr 93 (Operand.tmp 1) 6, type := 0, pos := "instr.go:64", after := #[{ on := 13, ground := Ground.guard }], guard := some (13, false) }) (v := undef) rfl (by kernel_rfl) (by kernel_rfl) (by kernel_rfl) (fun _ _ _ h => h) (Or.inr ⟨by rfl, rfl⟩) hn ?_
          try simp only [Act.put, List.setIfInBounds_toArray, List.set_cons_zero, List.set_cons_succ]
          refine wpAnyH_take (i := 15) (oi := { dst := some 72, op := Op.load 9 (Operand.tmp 71), type := 9, pos := "instr.go:64", after := #[{ on := 14, ground := Ground.data }, { on := 13, ground := Ground.guard }], guard := some (13, false) }) (v := undef) rfl (by kernel_rfl) (by kernel_rfl) (by kernel_rfl) (fun _ _ _ h => h) (Or.inr ⟨by rfl, rfl⟩) hn ?_
          try simp only [Act.put, List.setIfInBounds_toArray, List.set_cons_zero, List.set_cons_succ]
          refine wpAnyH_take (i := 16) (oi := { dst := some 73, op := Op.call { callee := Callee.value (Operand.func 55), args := #[Operand.tmp 72], argTypes := #[9] }, type := 4, pos := "instr.go:64", after := #[{ on := 15, ground := Ground.data }, { on := 13, ground := Ground.chain }, { on := 13, ground := Ground.guard }], guard := some (13, false) }) (v := undef) rfl (by kernel_rfl) (by kernel_rfl) (by kernel_rfl) (fun _ _ _ h => h) (Or.inr ⟨by rfl, rfl⟩) hn ?_
          try simp only [Act.put, List.setIfInBounds_toArray, List.set_cons_zero, List.set_cons_succ]
          refine wpAnyH_take (i := 17) (oi := { dst := some 74, op := Op.pick (Operand.tmp 70) (Operand.const (Value.bool true)) (Operand.tmp 73), type := 4, pos := "instr.go:64", after := #[{ on := 13, ground := Ground.data }, { on := 16, ground := Ground.data }, { on := 9, ground := Ground.guard }], guard := some (9, true) }) (v := ?v10x29) rfl (by kernel_rfl) (by kernel_rfl) (by kernel_rfl) (fun _ _ _ h => h) (Or.inl ⟨by rfl, ?y10x29⟩) hn ?r10x29
          case y10x29 => (intro wS hS; (try go_simp); (try with_reducible rfl))
          try simp only [Act.put, List.setIfInBounds_toArray, List.set_cons_zero, List.set_cons_succ]
          refine wpAnyH_take (i := 18) (oi := { dst := some 75, op := Op.pick (Operand.tmp 66) (Operand.tmp 74) (Operand.const (Value.bool false)), type := 4, pos := "instr.go:64", after := #[{ on := 9, ground := Ground.data }, { on := 17, ground := Ground.data }], guard := none }) (v := ?v10x30) rfl (by kernel_rfl) (by kernel_rfl) (by kernel_rfl) (fun _ _ _ h => h) (Or.inl ⟨by rfl, ?y10x30⟩) hn ?r10x30
          case y10x30 => (intro wS hS; (try go_simp); (try with_reducible rfl))
          try simp only [Act.put, List.setIfInBounds_toArray, List.set_cons_zero, List.set_cons_succ]
          refine wpAnyH_take (i := 19) (oi := { dst := some 4, op := Op.assign (Operand.tmp 75), type := 4, pos := "instr.go:64", after := #[{ on := 18, ground := Ground.data }, { on := 16, ground := Ground.chain }, { on := 0, ground := Ground.phase }, { on := 1, ground := Ground.phase }, { on := 2, ground := Ground.phase }, { on := 3, ground := Ground.phase }, { on := 4, ground := Ground.phase }, { on := 5, ground := Ground.phase }, { on := 6, ground := Ground.phase }, { on := 7, ground := Ground.phase }, { on := 8, ground := Ground.phase }, { on := 9, ground := Ground.phase }, { on := 10, ground := Ground.phase }, { on := 11, ground := Ground.phase }, { on := 12, ground := Ground.phase }, { on := 13, ground := Ground.phase }, { on := 14, ground := Ground.phase }, { on := 15, ground := Ground.phase }, { on := 16, ground := Ground.phase }, { on := 17, ground := Ground.phase }, { on := 18, ground := Ground.phase }], guard := none }) (v := ?v10x31) rfl (by kernel_rfl) (by kernel_rfl) (by kernel_rfl) (fun _ _ _ h => h) (Or.inl ⟨by rfl, ?y10x31⟩) hn ?r10x31
          case y10x31 => (intro wS hS; (try go_simp); (try with_reducible rfl))
          try simp only [Act.put, List.setIfInBounds_toArray, List.set_cons_zero, List.set_cons_succ]
          refine wpAnyH_take (i := 20) (oi := { dst := some 76, op := Op.fieldAddr 93 (Operand.tmp 1) 6, type := 0, pos := "instr.go:64", after := #[{ on := 0, ground := Ground.phase }, { on := 1, ground := Ground.phase }, { on := 2, ground := Ground.phase }, { on := 3, ground := Ground.phase }, { on := 4, ground := Ground.phase }, { on := 5, ground := Ground.phase }, { on := 6, ground := Ground.phase }, { on := 7, ground := Ground.phase }, { on := 8, ground := Ground.phase }, { on := 9, ground := Ground.phase }, { on := 10, ground := Ground.phase }, { on := 11, ground := Ground.phase }, { on := 12, ground := Ground.phase }, { on := 13, ground := Ground.phase }, { on := 14, ground := Ground.phase }, { on := 15, ground := Ground.phase }, { on := 16, ground := Ground.phase }, { on := 17, ground := Ground.phase }, { on := 18, ground := Ground.phase }, { on := 19, ground := Ground.phase }], guard := none }) (v := ?v10x32) rfl (by kernel_rfl) (by kernel_rfl) (by kernel_rfl) (fun _ _ _ h => h) (Or.inl ⟨by rfl, ?y10x32⟩) hn ?r10x32
          case y10x32 => (intro wS hS; (try go_simp); (try with_reducible rfl))
          try simp only [Act.put, List.setIfInBounds_toArray, List.set_cons_zero, List.set_cons_succ]
          refine wpAnyH_ready (rs := [21]) (by kernel_rfl) (by simp) ?_
          refine AllReadyH.cons (o := { dst := none, op := Op.store 9 (Operand.tmp 76) (Operand.const (Value.string { data := #[] })), type := 0, pos := "instr.go:64", after := #[{ on := 20, ground := Ground.data }, { on := 19, ground := Ground.chain }, { on := 0, ground := Ground.phase }, { on := 1, ground := Ground.phase }, { on := 2, ground := Ground.phase }, { on := 3, ground := Ground.phase }, { on := 4, ground := Ground.phase }, { on := 5, ground := Ground.phase }, { on := 6, ground := Ground.phase }, { on := 7, ground := Ground.phase }, { on := 8, ground := Ground.phase }, { on := 9, ground := Ground.phase }, { on := 10, ground := Ground.phase }, { on := 11, ground := Ground.phase }, { on := 12, ground := Ground.phase }, { on := 13, ground := Ground.phase }, { on := 14, ground := Ground.phase }, { on := 15, ground := Ground.phase }, { on := 16, ground := Ground.phase }, { on := 17, ground := Ground.phase }, { on := 18, ground := Ground.phase }, { on := 19, ground := Ground.phase }], guard := none }) rfl (fun K hK => ?_) AllReadyH.nil
          have z9 := cellAt hbx 9 (v := .string raw) rfl
          have f9 := frozenAt hbx 9
          go_simp
          have hbx := hp_set hbx 9 (.string ⟨#[]⟩)
          have hn : (fun w' => New w w' ∧ w'.heap[wa.heap.size]? = some (.cells #[.int .i64 13, .int .i64 ln] 123)) (wr.setCell ⟨w.heap.size, 9, none⟩ (.string ⟨#[]⟩)) := ⟨setNew hn.1 9 _, hp_other hn.2 HNE.out⟩
          refine hK.out _ _ (by first | exact hn | exact Upd.alloc hn _) (fun hn => ?_)
          clear hK K
          try simp only [Act.put, List.setIfInBounds_toArray, List.set_cons_zero, List.set_cons_succ]
          refine wpAnyH_done (by kernel_rfl) ?_ _
          refine NoPanic.normal ?_
          go_wp2_with fail
          go_meet
          exact ⟨_, (.slice al li.length cl), (.slice au (lb ty).length cu), rfl, (by have h : raw.size = 16 := (by have := has_eq HBH.out; omega); simp [ownQ, h]), hbx, hn.1, HL.out.new hn.1, HU.out.new hn.1⟩
        | false =>
          have hn : (fun w' => New w w' ∧ w'.heap[wa.heap.size]? = some (.cells #[.int .i64 13, .int .i64 ln] 123)) wb.drew := ⟨HN.out.drew, HI.out⟩
          have hbx : Box wb.drew w.heap.size ⟨p, c, k, t, i, x, y, li, n, raw, lane, ty⟩ (.slice al li.length cl) (.slice au (lb ty).length cu) := HB.out
          clear y0 y1 z9 f9
          go_wp2_with fail
          refine wp_region_noPanic ?_
          refine wp_region_held_drew (S := (fun w' => New w w' ∧ w'.heap[wa.heap.size]? = some (.cells #[.int .i64 13, .int .i64 ln] 123))) (by kernel_rfl) (by first | exact hn | exact (Upd.refl _ _).drew | exact Upd.drew (by assumption)) (fun hn => ?_)
          generalize wb.drew = wd at *
          refine wpAnyH_take (i := 0) (oi := { dst := some 57, op := Op.move (Operand.tmp 4), type := 4, pos := "instr.go:64", after := #[], guard := none }) (v := ?v11x1) rfl (by kernel_rfl) (by kernel_rfl) (by kernel_rfl) (fun _ _ _ h => h) (Or.inl ⟨by rfl, ?y11x1⟩) hn ?r11x1
          case y11x1 => (intro wS hS; (try go_simp); (try with_reducible rfl))
          try simp only [Act.put, List.setIfInBounds_toArray, List.set_cons_zero, List.set_cons_succ]
          refine wpAnyH_take (i := 1) (oi := { dst := some 58, op := Op.move (Operand.tmp 57), type := 4, pos := "instr.go:64", after := #[{ on := 0, ground := Ground.data }], guard := none }) (v := ?v11x2) rfl (by kernel_rfl) (by kernel_rfl) (by kernel_rfl) (fun _ _ _ h => h) (Or.inl ⟨by rfl, ?y11x2⟩) hn ?r11x2
          case y11x2 => (intro wS hS; (try go_simp); (try with_reducible rfl))
          try simp only [Act.put, List.setIfInBounds_toArray, List.set_cons_zero, List.set_cons_succ]
          refine wpAnyH_take (i := 2) (oi := { dst := some 59, op := Op.load 123 (Operand.tmp 3), type := 123, pos := "instr.go:64", after := #[{ on := 1, ground := Ground.guard }], guard := some (1, true) }) (v := ?v11x3) rfl (by kernel_rfl) (by kernel_rfl) (by kernel_rfl) (fun _ _ _ h => h) (Or.inl ⟨by rfl, ?y11x3⟩) hn ?r11x3
          case y11x3 => (intro wS hS; have c0 := cellAt hS.2 0 rfl; have c1 := cellAt hS.2 1 rfl; (try go_simp); (try with_reducible rfl))
          try simp only [Act.put, List.setIfInBounds_toArray, List.set_cons_zero, List.set_cons_succ]
          refine wpAnyH_take (i := 4) (oi := { dst := some 61, op := Op.fieldAddr 93 (Operand.tmp 1) 6, type := 0, pos := "instr.go:64", after := #[{ on := 1, ground := Ground.guard }], guard := some (1, true) }) (v := ?v11x4) rfl (by kernel_rfl) (by kernel_rfl) (by kernel_rfl) (fun _ _ _ h => h) (Or.inl ⟨by rfl, ?y11x4⟩) hn ?r11x4
          case y11x4 => (intro wS hS; (try go_simp); (try with_reducible rfl))
          try simp only [Act.put, List.setIfInBounds_toArray, List.set_cons_zero, List.set_cons_succ]
          refine wpAnyH_ready (rs := [3, 5]) (by kernel_rfl) (by simp) ?_
          refine AllReadyH.cons (o := { dst := some 60, op := Op.call { callee := Callee.value (Operand.func 53), args := #[Operand.tmp 59], argTypes := #[123] }, type := 127, pos := "instr.go:64", after := #[{ on := 2, ground := Ground.data }, { on := 1, ground := Ground.chain }, { on := 1, ground := Ground.guard }], guard := some (1, true) }) rfl (fun K hK => ?_) ?_
          · skip
            go_simp
            refine (HS2.out _ _).mono ?_
            rintro e wq ⟨rfl, hnq⟩
            go_wp2_with fail
            have hbx := hp1 hbx hnq
            have hn : (fun w' => New w w' ∧ w'.heap[wa.heap.size]? = some (.cells #[.int .i64 13, .int .i64 ln] 123)) wq := ⟨New.trans hn.1 hnq, hp1 hn.2 hnq⟩
            refine hK.out _ _ (by first | exact hn | exact Upd.alloc hn _) (fun hn => ?_)
            clear hK K
            try simp only [Act.put, List.setIfInBounds_toArray, List.set_cons_zero, List.set_cons_succ]
            refine wpAnyH_ready (rs := [5]) (by kernel_rfl) (by simp) ?_
            refine AllReadyH.cons (o := { dst := some 62, op := Op.load 9 (Operand.tmp 61), type := 9, pos := "instr.go:64", after := #[{ on := 4, ground := Ground.data }, { on := 1, ground := Ground.guard }], guard := some (1, true) }) rfl (fun K hK => ?_) AllReadyH.nil
            have z9 := cellAt hbx 9 (v := .string raw) rfl
            go_simp
            refine hK.out _ _ (by first | exact hn | exact Upd.alloc hn _) (fun hn => ?_)
            clear hK K
            try simp only [Act.put, List.setIfInBounds_toArray, List.set_cons_zero, List.set_cons_succ]
            refine wpAnyH_take (i := 6) (oi := { dst := some 63, op := Op.call { callee := Callee.builtin Builtin.len, args := #[Operand.tmp 62], argTypes := #[9] }, type := 3, pos := "instr.go:64", after := #[{ on := 5, ground := Ground.data }, { on := 1, ground := Ground.guard }], guard := some (1, true) }) (v := ?v11x5) rfl (by kernel_rfl) (by kernel_rfl) (by kernel_rfl) (fun _ _ _ h => h) (Or.inl ⟨by rfl, ?y11x5⟩) hn ?r11x5
            case y11x5 => (intro wS hS; (try go_simp); (try with_reducible rfl))
            try simp only [Act.put, List.setIfInBounds_toArray, List.set_cons_zero, List.set_cons_succ]
            refine wpAnyH_ready (rs := [7]) (by kernel_rfl) (by simp) ?_
            refine AllReadyH.cons (o := { dst := some 64, op := Op.call { callee := Callee.value (Operand.func 54), args := #[Operand.tmp 60, Operand.tmp 63], argTypes := #[127, 3] }, type := 4, pos := "instr.go:64", after := #[{ on := 3, ground := Ground.data }, { on := 6, ground := Ground.data }, { on := 3, ground := Ground.chain }, { on := 1, ground := Ground.guard }], guard := some (1, true) }) rfl (fun K hK => ?_) AllReadyH.nil
            go_simp
            refine (HH2.out _).mono ?_
            rintro e wr ⟨rfl, hnq⟩
            go_wp2_with fail
            have hbx := hp1 hbx hnq
            have hn : (fun w' => New w w' ∧ w'.heap[wa.heap.size]? = some (.cells #[.int .i64 13, .int .i64 ln] 123)) wr := ⟨New.trans hn.1 hnq, hp1 hn.2 hnq⟩
            refine hK.out _ _ (by first | exact hn | exact Upd.alloc hn _) (fun hn => ?_)
            clear hK K
            try simp only [Act.put, List.setIfInBounds_toArray, List.set_cons_zero, List.set_cons_succ]
            refine wpAnyH_take (i := 8) (oi := { dst := some 65, op := Op.pick (Operand.tmp 58) (Operand.tmp 64) (Operand.const (Value.bool false)), type := 4, pos := "instr.go:64", after := #[{ on := 1, ground := Ground.data }, { on := 7, ground := Ground.data }], guard := none }) (v := ?v11x6) rfl (by kernel_rfl) (by kernel_rfl) (by kernel_rfl) (fun _ _ _ h => h) (Or.inl ⟨by rfl, ?y11x6⟩) hn ?r11x6
            case y11x6 => (intro wS hS; (try go_simp); (try with_reducible rfl))
            try simp only [Act.put, List.setIfInBounds_toArray, List.set_cons_zero, List.set_cons_succ]
            refine wpAnyH_take (i := 9) (oi := { dst := some 66, op := Op.move (Operand.tmp 65), type := 4, pos := "instr.go:64", after := #[{ on := 8, ground := Ground.data }, { on := 7, ground := Ground.chain }], guard := none }) (v := ?v11x7) rfl (by kernel_rfl) (by kernel_rfl) (by kernel_rfl) (fun _ _ _ h => h) (Or.inl ⟨by rfl, ?y11x7⟩) hn ?r11x7
            case y11x7 => (intro wS hS; (try go_simp); (try with_reducible rfl))
            try simp only [Act.put, List.setIfInBounds_toArray, List.set_cons_zero, List.set_cons_succ]
            refine wpAnyH_take (i := 10) (oi := { dst := some 67, op := Op.fieldAddr 123 (Operand.tmp 3) 0, type := 0, pos := "instr.go:64", after := #[{ on := 9, ground := Ground.guard }], guard := some (9, true) }) (v := undef) rfl (by kernel_rfl) (by kernel_rfl) (by kernel_rfl) (fun _ _ _ h => h) (Or.inr ⟨by rfl, rfl⟩) hn ?_
            try simp only [Act.put, List.setIfInBounds_toArray, List.set_cons_zero, List.set_cons_succ]
            refine wpAnyH_take (i := 11) (oi := { dst := some 68, op := Op.load 3 (Operand.tmp 67), type := 3, pos := "instr.go:64", after := #[{ on := 10, ground := Ground.data }, { on := 9, ground := Ground.guard }], guard := some (9, true) }) (v := undef) rfl (by kernel_rfl) (by kernel_rfl) (by kernel_rfl) (fun _ _ _ h => h) (Or.inr ⟨by rfl, rfl⟩) hn ?_
            try simp only [Act.put, List.setIfInBounds_toArray, List.set_cons_zero, List.set_cons_succ]
            refine wpAnyH_take (i := 12) (oi := { dst := some 69, op := Op.binOp BinOp.neq 3 (Operand.tmp 68) (Operand.const (Value.int IntKind.i64 14)) 3, type := 4, pos := "instr.go:64", after := #[{ on := 11, ground := Ground.data }, { on := 9, ground := Ground.guard }], guard := some (9, true) }) (v := undef) rfl (by kernel_rfl) (by kernel_rfl) (by kernel_rfl) (fun _ _ _ h => h) (Or.inr ⟨by rfl, rfl⟩) hn ?_
            try simp only [Act.put, List.setIfInBounds_toArray, List.set_cons_zero, List.set_cons_succ]
            refine wpAnyH_take (i := 13) (oi := { dst := some 70, op := Op.move (Operand.tmp 69), type := 4, pos := "instr.go:64", after := #[{ on := 12, ground := Ground.data }, { on := 9, ground := Ground.chain }, { on := 9, ground := Ground.guard }], guard := some (9, true) }) (v := undef) rfl (by kernel_rfl) (by kernel_rfl) (by kernel_rfl) (fun _ _ _ h => h) (Or.inr ⟨by rfl, rfl⟩) hn ?_
            try simp only [Act.put, List.setIfInBounds_toArray, List.set_cons_zero, List.set_cons_succ]
            refine wpAnyH_take (i := 14) (oi := { dst := some 71, op := Op.fieldAddr 93 (Operand.tmp 1) 6, type := 0, pos := "instr.go:64", after := #[{ on := 13, ground := Ground.guard }], guard := some (13, false) }) (v := undef) rfl (by kernel_rfl) (by kernel_rfl) (by kernel_rfl) (fun _ _ _ h => h) (Or.inr ⟨by rfl, rfl⟩) hn ?_
            try simp only [Act.put, List.setIfInBounds_toArray, List.set_cons_zero, List.set_cons_succ]
            refine wpAnyH_take (i := 15) (oi := { dst := some 72, op := Op.load 9 (Operand.tmp 71), type := 9, pos := "instr.go:64", after := #[{ on := 14, ground := Ground.data }, { on := 13, ground := Ground.guard }], guard := some (13, false) }) (v := undef) rfl (by kernel_rfl) (by kernel_rfl) (by kernel_rfl) (fun _ _ _ h => h) (Or.inr ⟨by rfl, rfl⟩) hn ?_
            try simp only [Act.put, List.setIfInBounds_toArray, List.set_cons_zero, List.set_cons_succ]
            refine wpAnyH_take (i := 16) (oi := { dst := some 73, op := Op.call { callee := Callee.value (Operand.func 55), args := #[Operand.tmp 72], argTypes := #[9] }, type := 4, pos := "instr.go:64", after := #[{ on := 15, ground := Ground.data }, { on := 13, ground := Ground.chain }, { on := 13, ground := Ground.guard }], guard := some (13, false) }) (v := undef) rfl (by kernel_rfl) (by kernel_rfl) (by kernel_rfl) (fun _ _ _ h => h) (Or.inr ⟨by rfl, rfl⟩) hn ?_
            try simp only [Act.put, List.setIfInBounds_toArray, List.set_cons_zero, List.set_cons_succ]
            refine wpAnyH_take (i := 17) (oi := { dst := some 74, op := Op.pick (Operand.tmp 70) (Operand.const (Value.bool true)) (Operand.tmp 73), type := 4, pos := "instr.go:64", after := #[{ on := 13, ground := Ground.data }, { on := 16, ground := Ground.data }, { on := 9, ground := Ground.guard }], guard := some (9, true) }) (v := undef) rfl (by kernel_rfl) (by kernel_rfl) (by kernel_rfl) (fun _ _ _ h => h) (Or.inr ⟨by rfl, rfl⟩) hn ?_
            try simp only [Act.put, List.setIfInBounds_toArray, List.set_cons_zero, List.set_cons_succ]
            refine wpAnyH_take (i := 18) (oi := { dst := some 75, op := Op.pick (Operand.tmp 66) (Operand.tmp 74) (Operand.const (Value.bool false)), type := 4, pos := "instr.go:64", after := #[{ on := 9, ground := Ground.data }, { on := 17, ground := Ground.data }], guard := none }) (v := ?v11x16) rfl (by kernel_rfl) (by kernel_rfl) (by kernel_rfl) (fun _ _ _ h => h) (Or.inl ⟨by rfl, ?y11x16⟩) hn ?r11x16
            case y11x16 => (intro wS hS; (try go_simp); (try with_reducible rfl))
            try simp only [Act.put, List.setIfInBounds_toArray, List.set_cons_zero, List.set_cons_succ]
            refine wpAnyH_take (i := 19) (oi := { dst := some 4, op := Op.assign (Operand.tmp 75), type := 4, pos := "instr.go:64", after := #[{ on := 18, ground := Ground.data }, { on := 16, ground := Ground.chain }, { on := 0, ground := Ground.phase }, { on := 1, ground := Ground.phase }, { on := 2, ground := Ground.phase }, { on := 3, ground := Ground.phase }, { on := 4, ground := Ground.phase }, { on := 5, ground := Ground.phase }, { on := 6, ground := Ground.phase }, { on := 7, ground := Ground.phase }, { on := 8, ground := Ground.phase }, { on := 9, ground := Ground.phase }, { on := 10, ground := Ground.phase }, { on := 11, ground := Ground.phase }, { on := 12, ground := Ground.phase }, { on := 13, ground := Ground.phase }, { on := 14, ground := Ground.phase }, { on := 15, ground := Ground.phase }, { on := 16, ground := Ground.phase }, { on := 17, ground := Ground.phase }, { on := 18, ground := Ground.phase }], guard := none }) (v := ?v11x17) rfl (by kernel_rfl) (by kernel_rfl) (by kernel_rfl) (fun _ _ _ h => h) (Or.inl ⟨by rfl, ?y11x17⟩) hn ?r11x17
            case y11x17 => (intro wS hS; (try go_simp); (try with_reducible rfl))
            try simp only [Act.put, List.setIfInBounds_toArray, List.set_cons_zero, List.set_cons_succ]
            refine wpAnyH_take (i := 20) (oi := { dst := some 76, op := Op.fieldAddr 93 (Operand.tmp 1) 6, type := 0, pos := "instr.go:64", after := #[{ on := 0, ground := Ground.phase }, { on := 1, ground := Ground.phase }, { on := 2, ground := Ground.phase }, { on := 3, ground := Ground.phase }, { on := 4, ground := Ground.phase }, { on := 5, ground := Ground.phase }, { on := 6, ground := Ground.phase }, { on := 7, ground := Ground.phase }, { on := 8, ground := Ground.phase }, { on := 9, ground := Ground.phase }, { on := 10, ground := Ground.phase }, { on := 11, ground := Ground.phase }, { on := 12, ground := Ground.phase }, { on := 13, ground := Ground.phase }, { on := 14, ground := Ground.phase }, { on := 15, ground := Ground.phase }, { on := 16, ground := Ground.phase }, { on := 17, ground := Ground.phase }, { on := 18, ground := Ground.phase }, { on := 19, ground := Ground.phase }], guard := none }) (v := ?v11x18) rfl (by kernel_rfl) (by kernel_rfl) (by kernel_rfl) (fun _ _ _ h => h) (Or.inl ⟨by rfl, ?y11x18⟩) hn ?r11x18
            case y11x18 => (intro wS hS; (try go_simp); (try with_reducible rfl))
            try simp only [Act.put, List.setIfInBounds_toArray, List.set_cons_zero, List.set_cons_succ]
            refine wpAnyH_ready (rs := [21]) (by kernel_rfl) (by simp) ?_
            refine AllReadyH.cons (o := { dst := none, op := Op.store 9 (Operand.tmp 76) (Operand.const (Value.string { data := #[] })), type := 0, pos := "instr.go:64", after := #[{ on := 20, ground := Ground.data }, { on := 19, ground := Ground.chain }, { on := 0, ground := Ground.phase }, { on := 1, ground := Ground.phase }, { on := 2, ground := Ground.phase }, { on := 3, ground := Ground.phase }, { on := 4, ground := Ground.phase }, { on := 5, ground := Ground.phase }, { on := 6, ground := Ground.phase }, { on := 7, ground := Ground.phase }, { on := 8, ground := Ground.phase }, { on := 9, ground := Ground.phase }, { on := 10, ground := Ground.phase }, { on := 11, ground := Ground.phase }, { on := 12, ground := Ground.phase }, { on := 13, ground := Ground.phase }, { on := 14, ground := Ground.phase }, { on := 15, ground := Ground.phase }, { on := 16, ground := Ground.phase }, { on := 17, ground := Ground.phase }, { on := 18, ground := Ground.phase }, { on := 19, ground := Ground.phase }], guard := none }) rfl (fun K hK => ?_) AllReadyH.nil
            have z9 := cellAt hbx 9 (v := .string raw) rfl
            have f9 := frozenAt hbx 9
            go_simp
            have hbx := hp_set hbx 9 (.string ⟨#[]⟩)
            have hn : (fun w' => New w w' ∧ w'.heap[wa.heap.size]? = some (.cells #[.int .i64 13, .int .i64 ln] 123)) (wr.setCell ⟨w.heap.size, 9, none⟩ (.string ⟨#[]⟩)) := ⟨setNew hn.1 9 _, hp_other hn.2 HNE.out⟩
            refine hK.out _ _ (by first | exact hn | exact Upd.alloc hn _) (fun hn => ?_)
            clear hK K
            try simp only [Act.put, List.setIfInBounds_toArray, List.set_cons_zero, List.set_cons_succ]
            refine wpAnyH_done (by kernel_rfl) ?_ _
            refine NoPanic.normal ?_
            go_wp2_with fail
            go_meet
            exact ⟨_, (.slice al li.length cl), (.slice au (lb ty).length cu), rfl, (by have h := has_ne HBH.out; simp [ownQ, h]), hbx, hn.1, HL.out.new hn.1, HU.out.new hn.1⟩
          refine AllReadyH.cons (o := { dst := some 62, op := Op.load 9 (Operand.tmp 61), type := 9, pos := "instr.go:64", after := #[{ on := 4, ground := Ground.data }, { on := 1, ground := Ground.guard }], guard := some (1, true) }) rfl (fun K hK => ?_) AllReadyH.nil
          have z9 := cellAt hbx 9 (v := .string raw) rfl
          go_simp
          refine hK.out _ _ (by first | exact hn | exact Upd.alloc hn _) (fun hn => ?_)
          clear hK K
          try simp only [Act.put, List.setIfInBounds_toArray, List.set_cons_zero, List.set_cons_succ]
          refine wpAnyH_take (i := 6) (oi := { dst := some 63, op := Op.call { callee := Callee.builtin Builtin.len, args := #[Operand.tmp 62], argTypes := #[9] }, type := 3, pos := "instr.go:64", after := #[{ on := 5, ground := Ground.data }, { on := 1, ground := Ground.guard }], guard := some (1, true) }) (v := ?v11x19) rfl (by kernel_rfl) (by kernel_rfl) (by kernel_rfl) (fun _ _ _ h => h) (Or.inl ⟨by rfl, ?y11x19⟩) hn ?r11x19
          case y11x19 => (intro wS hS; (try go_simp); (try with_reducible rfl))
          try simp only [Act.put, List.setIfInBounds_toArray, List.set_cons_zero, List.set_cons_succ]
          refine wpAnyH_ready (rs := [3]) (by kernel_rfl) (by simp) ?_
          refine AllReadyH.cons (o := { dst := some 60, op := Op.call { callee := Callee.value (Operand.func 53), args := #[Operand.tmp 59], argTypes := #[123] }, type := 127, pos := "instr.go:64", after := #[{ on := 2, ground := Ground.data }, { on := 1, ground := Ground.chain }, { on := 1, ground := Ground.guard }], guard := some (1, true) }) rfl (fun K hK => ?_) AllReadyH.nil
          go_simp
          refine (HS2.out _ _).mono ?_
          rintro e wq ⟨rfl, hnq⟩
          go_wp2_with fail
          have hbx := hp1 hbx hnq
          have hn : (fun w' => New w w' ∧ w'.heap[wa.heap.size]? = some (.cells #[.int .i64 13, .int .i64 ln] 123)) wq := ⟨New.trans hn.1 hnq, hp1 hn.2 hnq⟩
          refine hK.out _ _ (by first | exact hn | exact Upd.alloc hn _) (fun hn => ?_)
          clear hK K
          try simp only [Act.put, List.setIfInBounds_toArray, List.set_cons_zero, List.set_cons_succ]
          refine wpAnyH_ready (rs := [7]) (by kernel_rfl) (by simp) ?_
          refine AllReadyH.cons (o := { dst := some 64, op := Op.call { callee := Callee.value (Operand.func 54), args := #[Operand.tmp 60, Operand.tmp 63], argTypes := #[127, 3] }, type := 4, pos := "instr.go:64", after := #[{ on := 3, ground := Ground.data }, { on := 6, ground := Ground.data }, { on := 3, ground := Ground.chain }, { on := 1, ground := Ground.guard }], guard := some (1, true) }) rfl (fun K hK => ?_) AllReadyH.nil
          go_simp
          refine (HH2.out _).mono ?_
          rintro e wr ⟨rfl, hnq⟩
          go_wp2_with fail
          have hbx := hp1 hbx hnq
          have hn : (fun w' => New w w' ∧ w'.heap[wa.heap.size]? = some (.cells #[.int .i64 13, .int .i64 ln] 123)) wr := ⟨New.trans hn.1 hnq, hp1 hn.2 hnq⟩
          refine hK.out _ _ (by first | exact hn | exact Upd.alloc hn _) (fun hn => ?_)
          clear hK K
          try simp only [Act.put, List.setIfInBounds_toArray, List.set_cons_zero, List.set_cons_succ]
          refine wpAnyH_take (i := 8) (oi := { dst := some 65, op := Op.pick (Operand.tmp 58) (Operand.tmp 64) (Operand.const (Value.bool false)), type := 4, pos := "instr.go:64", after := #[{ on := 1, ground := Ground.data }, { on := 7, ground := Ground.data }], guard := none }) (v := ?v11x20) rfl (by kernel_rfl) (by kernel_rfl) (by kernel_rfl) (fun _ _ _ h => h) (Or.inl ⟨by rfl, ?y11x20⟩) hn ?r11x20
          case y11x20 => (intro wS hS; (try go_simp); (try with_reducible rfl))
          try simp only [Act.put, List.setIfInBounds_toArray, List.set_cons_zero, List.set_cons_succ]
          refine wpAnyH_take (i := 9) (oi := { dst := some 66, op := Op.move (Operand.tmp 65), type := 4, pos := "instr.go:64", after := #[{ on := 8, ground := Ground.data }, { on := 7, ground := Ground.chain }], guard := none }) (v := ?v11x21) rfl (by kernel_rfl) (by kernel_rfl) (by kernel_rfl) (fun _ _ _ h => h) (Or.inl ⟨by rfl, ?y11x21⟩) hn ?r11x21
          case y11x21 => (intro wS hS; (try go_simp); (try with_reducible rfl))
          try simp only [Act.put, List.setIfInBounds_toArray, List.set_cons_zero, List.set_cons_succ]
          refine wpAnyH_take (i := 10) (oi := { dst := some 67, op := Op.fieldAddr 123 (Operand.tmp 3) 0, type := 0, pos := "instr.go:64", after := #[{ on := 9, ground := Ground.guard }], guard := some (9, true) }) (v := undef) rfl (by kernel_rfl) (by kernel_rfl) (by kernel_rfl) (fun _ _ _ h => h) (Or.inr ⟨by rfl, rfl⟩) hn ?_
          try simp only [Act.put, List.setIfInBounds_toArray, List.set_cons_zero, List.set_cons_succ]
          refine wpAnyH_take (i := 11) (oi := { dst := some 68, op := Op.load 3 (Operand.tmp 67), type := 3, pos := "instr.go:64", after := #[{ on := 10, ground := Ground.data }, { on := 9, ground := Ground.guard }], guard := some (9, true) }) (v := undef) rfl (by kernel_rfl) (by kernel_rfl) (by kernel_rfl) (fun _ _ _ h => h) (Or.inr ⟨by rfl, rfl⟩) hn ?_
          try simp only [Act.put, List.setIfInBounds_toArray, List.set_cons_zero, List.set_cons_succ]
          refine wpAnyH_take (i := 12) (oi := { dst := some 69, op := Op.binOp BinOp.neq 3 (Operand.tmp 68) (Operand.const (Value.int IntKind.i64 14)) 3, type := 4, pos := "instr.go:64", after := #[{ on := 11, ground := Ground.data }, { on := 9, ground := Ground.guard }], guard := some (9, true) }) (v := undef) rfl (by kernel_rfl) (by kernel_rfl) (by kernel_rfl) (fun _ _ _ h => h) (Or.inr ⟨by rfl, rfl⟩) hn ?_
          try simp only [Act.put, List.setIfInBounds_toArray, List.set_cons_zero, List.set_cons_succ]
          refine wpAnyH_take (i := 13) (oi := { dst := some 70, op := Op.move (Operand.tmp 69), type := 4, pos := "instr.go:64", after := #[{ on := 12, ground := Ground.data }, { on := 9, ground := Ground.chain }, { on := 9, ground := Ground.guard }], guard := some (9, true) }) (v := undef) rfl (by kernel_rfl) (by kernel_rfl) (by kernel_rfl) (fun _ _ _ h => h) (Or.inr ⟨by rfl, rfl⟩) hn ?_
          try simp only [Act.put, List.setIfInBounds_toArray, List.set_cons_zero, List.set_cons_succ]
          refine wpAnyH_take (i := 14) (oi := { dst := some 71, op := Op.fieldAddr 93 (Operand.tmp 1) 6, type := 0, pos := "instr.go:64", after := #[{ on := 13, ground := Ground.guard }], guard := some (13, false) }) (v := undef) rfl (by kernel_rfl) (by kernel_rfl) (by kernel_rfl) (fun _ _ _ h => h) (Or.inr ⟨by rfl, rfl⟩) hn ?_
          try simp only [Act.put, List.setIfInBounds_toArray, List.set_cons_zero, List.set_cons_succ]
          refine wpAnyH_take (i := 15) (oi := { dst := some 72, op := Op.load 9 (Operand.tmp 71), type := 9, pos := "instr.go:64", after := #[{ on := 14, ground := Ground.data }, { on := 13, ground := Ground.guard }], guard := some (13, false) }) (v := undef) rfl (by kernel_rfl) (by kernel_rfl) (by kernel_rfl) (fun _ _ _ h => h) (Or.inr ⟨by rfl, rfl⟩) hn ?_
          try simp only [Act.put, List.setIfInBounds_toArray, List.set_cons_zero, List.set_cons_succ]
          refine wpAnyH_take (i := 16) (oi := { dst := some 73, op := Op.call { callee := Callee.value (Operand.func 55), args := #[Operand.tmp 72], argTypes := #[9] }, type := 4, pos := "instr.go:64", after := #[{ on := 15, ground := Ground.data }, { on := 13, ground := Ground.chain }, { on := 13, ground := Ground.guard }], guard := some (13, false) }) (v := undef) rfl (by kernel_rfl) (by kernel_rfl) (by kernel_rfl) (fun _ _ _ h => h) (Or.inr ⟨by rfl, rfl⟩) hn ?_
          try simp only [Act.put, List.setIfInBounds_toArray, List.set_cons_zero, List.set_cons_succ]
          refine wpAnyH_take (i := 17) (oi := { dst := some 74, op := Op.pick (Operand.tmp 70) (Operand.const (Value.bool true)) (Operand.tmp 73), type := 4, pos := "instr.go:64", after := #[{ on := 13, ground := Ground.data }, { on := 16, ground := Ground.data }, { on := 9, ground := Ground.guard }], guard := some (9, true) }) (v := undef) rfl (by kernel_rfl) (by kernel_rfl) (by kernel_rfl) (fun _ _ _ h => h) (Or.inr ⟨by rfl, rfl⟩) hn ?_
          try simp only [Act.put, List.setIfInBounds_toArray, List.set_cons_zero, List.set_cons_succ]
          refine wpAnyH_take (i := 18) (oi := { dst := some 75, op := Op.pick (Operand.tmp 66) (Operand.tmp 74) (Operand.const (Value.bool false)), type := 4, pos := "instr.go:64", after := #[{ on := 9, ground := Ground.data }, { on := 17, ground := Ground.data }], guard := none }) (v := ?v11x30) rfl (by kernel_rfl) (by kernel_rfl) (by kernel_rfl) (fun _ _ _ h => h) (Or.inl ⟨by rfl, ?y11x30⟩) hn ?r11x30
          case y11x30 => (intro wS hS; (try go_simp); (try with_reducible rfl))
          try simp only [Act.put, List.setIfInBounds_toArray, List.set_cons_zero, List.set_cons_succ]
          refine wpAnyH_take (i := 19) (oi := { dst := some 4, op := Op.assign (Operand.tmp 75), type := 4, pos := "instr.go:64", after := #[{ on := 18, ground := Ground.data }, { on := 16, ground := Ground.chain }, { on := 0, ground := Ground.phase }, { on := 1, ground := Ground.phase }, { on := 2, ground := Ground.phase }, { on := 3, ground := Ground.phase }, { on := 4, ground := Ground.phase }, { on := 5, ground := Ground.phase }, { on := 6, ground := Ground.phase }, { on := 7, ground := Ground.phase }, { on := 8, ground := Ground.phase }, { on := 9, ground := Ground.phase }, { on := 10, ground := Ground.phase }, { on := 11, ground := Ground.phase }, { on := 12, ground := Ground.phase }, { on := 13, ground := Ground.phase }, { on := 14, ground := Ground.phase }, { on := 15, ground := Ground.phase }, { on := 16, ground := Ground.phase }, { on := 17, ground := Ground.phase }, { on := 18, ground := Ground.phase }], guard := none }) (v := ?v11x31) rfl (by kernel_rfl) (by kernel_rfl) (by kernel_rfl) (fun _ _ _ h => h) (Or.inl ⟨by rfl, ?y11x31⟩) hn ?r11x31
          case y11x31 => (intro wS hS; (try go_simp); (try with_reducible rfl))
          try simp only [Act.put, List.setIfInBounds_toArray, List.set_cons_zero, List.set_cons_succ]
          refine wpAnyH_take (i := 20) (oi := { dst := some 76, op := Op.fieldAddr 93 (Operand.tmp 1) 6, type := 0, pos := "instr.go:64", after := #[{ on := 0, ground := Ground.phase }, { on := 1, ground := Ground.phase }, { on := 2, ground := Ground.phase }, { on := 3, ground := Ground.phase }, { on := 4, ground := Ground.phase }, { on := 5, ground := Ground.phase }, { on := 6, ground := Ground.phase }, { on := 7, ground := Ground.phase }, { on := 8, ground := Ground.phase }, { on := 9, ground := Ground.phase }, { on := 10, ground := Ground.phase }, { on := 11, ground := Ground.phase }, { on := 12, ground := Ground.phase }, { on := 13, ground := Ground.phase }, { on := 14, ground := Ground.phase }, { on := 15, ground := Ground.phase }, { on := 16, ground := Ground.phase }, { on := 17, ground := Ground.phase }, { on := 18, ground := Ground.phase }, { on := 19, ground := Ground.phase }], guard := none }) (v := ?v11x32) rfl (by kernel_rfl) (by kernel_rfl) (by kernel_rfl) (fun _ _ _ h => h) (Or.inl ⟨by rfl, ?y11x32⟩) hn ?r11x32
          case y11x32 => (intro wS hS; (try go_simp); (try with_reducible rfl))
          try simp only [Act.put, List.setIfInBounds_toArray, List.set_cons_zero, List.set_cons_succ]
          refine wpAnyH_ready (rs := [21]) (by kernel_rfl) (by simp) ?_
          refine AllReadyH.cons (o := { dst := none, op := Op.store 9 (Operand.tmp 76) (Operand.const (Value.string { data := #[] })), type := 0, pos := "instr.go:64", after := #[{ on := 20, ground := Ground.data }, { on := 19, ground := Ground.chain }, { on := 0, ground := Ground.phase }, { on := 1, ground := Ground.phase }, { on := 2, ground := Ground.phase }, { on := 3, ground := Ground.phase }, { on := 4, ground := Ground.phase }, { on := 5, ground := Ground.phase }, { on := 6, ground := Ground.phase }, { on := 7, ground := Ground.phase }, { on := 8, ground := Ground.phase }, { on := 9, ground := Ground.phase }, { on := 10, ground := Ground.phase }, { on := 11, ground := Ground.phase }, { on := 12, ground := Ground.phase }, { on := 13, ground := Ground.phase }, { on := 14, ground := Ground.phase }, { on := 15, ground := Ground.phase }, { on := 16, ground := Ground.phase }, { on := 17, ground := Ground.phase }, { on := 18, ground := Ground.phase }, { on := 19, ground := Ground.phase }], guard := none }) rfl (fun K hK => ?_) AllReadyH.nil
          have z9 := cellAt hbx 9 (v := .string raw) rfl
          have f9 := frozenAt hbx 9
          go_simp
          have hbx := hp_set hbx 9 (.string ⟨#[]⟩)
          have hn : (fun w' => New w w' ∧ w'.heap[wa.heap.size]? = some (.cells #[.int .i64 13, .int .i64 ln] 123)) (wr.setCell ⟨w.heap.size, 9, none⟩ (.string ⟨#[]⟩)) := ⟨setNew hn.1 9 _, hp_other hn.2 HNE.out⟩
          refine hK.out _ _ (by first | exact hn | exact Upd.alloc hn _) (fun hn => ?_)
          clear hK K
          try simp only [Act.put, List.setIfInBounds_toArray, List.set_cons_zero, List.set_cons_succ]
          refine wpAnyH_done (by kernel_rfl) ?_ _
          refine NoPanic.normal ?_
          go_wp2_with fail
          go_meet
          exact ⟨_, (.slice al li.length cl), (.slice au (lb ty).length cu), rfl, (by have h := has_ne HBH.out; simp [ownQ, h]), hbx, hn.1, HL.out.new hn.1, HU.out.new hn.1⟩
      · -- 14
        have HS2 := hid (fun l w => HSP.out 14 l w)
        rw [spanV_14] at HS2
        have HH2 := hid (fun w => HHA.out 16 16 raw.size w)
        obtain ⟨bh, hbh⟩ : ∃ bh, Span.has 16 16 raw.size = bh := ⟨_, rfl⟩
        rw [hbh] at HH2
        have y0 : wb.cell? ⟨wa.heap.size, 0, none⟩ = some (.int .i64 14) := cellAt HI.out 0 rfl
        have y1 : wb.cell? ⟨wa.heap.size, 1, none⟩ = some (.int .i64 ln) := cellAt HI.out 1 rfl
        have z9 : wb.cell? ⟨w.heap.size, 9, none⟩ = some (.string raw) := cellAt HB.out 9 rfl
        have f9 : wb.frozen? ⟨w.heap.size, 9, none⟩ = false := frozenAt HB.out 9
        have HBH := hid hbh
        clear hbh
        cases bh with
        | true =>
          have hn : (fun w' => New w w' ∧ w'.heap[wa.heap.size]? = some (.cells #[.int .i64 14, .int .i64 ln] 123)) wb.drew := ⟨HN.out.drew, HI.out⟩
          have hbx : Box wb.drew w.heap.size ⟨p, c, k, t, i, x, y, li, n, raw, lane, ty⟩ (.slice al li.length cl) (.slice au (lb ty).length cu) := HB.out
          clear y0 y1 z9 f9
          go_wp2_with fail
          refine wp_region_noPanic ?_
          refine wp_region_held_drew (S := (fun w' => New w w' ∧ w'.heap[wa.heap.size]? = some (.cells #[.int .i64 14, .int .i64 ln] 123))) (by kernel_rfl) (by first | exact hn | exact (Upd.refl _ _).drew | exact Upd.drew (by assumption)) (fun hn => ?_)
          generalize wb.drew = wd at *
          refine wpAnyH_take (i := 0) (oi := { dst := some 57, op := Op.move (Operand.tmp 4), type := 4, pos := "instr.go:64", after := #[], guard := none }) (v := ?v12x1) rfl (by kernel_rfl) (by kernel_rfl) (by kernel_rfl) (fun _ _ _ h => h) (Or.inl ⟨by rfl, ?y12x1⟩) hn ?r12x1
          case y12x1 => (intro wS hS; (try go_simp); (try with_reducible rfl))
          try simp only [Act.put, List.setIfInBounds_toArray, List.set_cons_zero, List.set_cons_succ]
          refine wpAnyH_take (i := 1) (oi := { dst := some 58, op := Op.move (Operand.tmp 57), type := 4, pos := "instr.go:64", after := #[{ on := 0, ground := Ground.data }], guard := none }) (v := ?v12x2) rfl (by kernel_rfl) (by kernel_rfl) (by kernel_rfl) (fun _ _ _ h => h) (Or.inl ⟨by rfl, ?y12x2⟩) hn ?r12x2
          case y12x2 => (intro wS hS; (try go_simp); (try with_reducible rfl))
          try simp only [Act.put, List.setIfInBounds_toArray, List.set_cons_zero, List.set_cons_succ]
          refine wpAnyH_take (i := 2) (oi := { dst := some 59, op := Op.load 123 (Operand.tmp 3), type := 123, pos := "instr.go:64", after := #[{ on := 1, ground := Ground.guard }], guard := some (1, true) }) (v := ?v12x3) rfl (by kernel_rfl) (by kernel_rfl) (by kernel_rfl) (fun _ _ _ h => h) (Or.inl ⟨by rfl, ?y12x3⟩) hn ?r12x3
          case y12x3 => (intro wS hS; have c0 := cellAt hS.2 0 rfl; have c1 := cellAt hS.2 1 rfl; (try go_simp); (try with_reducible rfl))
          try simp only [Act.put, List.setIfInBounds_toArray, List.set_cons_zero, List.set_cons_succ]
          refine wpAnyH_take (i := 4) (oi := { dst := some 61, op := Op.fieldAddr 93 (Operand.tmp 1) 6, type := 0, pos := "instr.go:64", after := #[{ on := 1, ground := Ground.guard }], guard := some (1, true) }) (v := ?v12x4) rfl (by kernel_rfl) (by kernel_rfl) (by kernel_rfl) (fun _ _ _ h => h) (Or.inl ⟨by rfl, ?y12x4⟩) hn ?r12x4
          case y12x4 => (intro wS hS; (try go_simp); (try with_reducible rfl))
          try simp only [Act.put, List.setIfInBounds_toArray, List.set_cons_zero, List.set_cons_succ]
          refine wpAnyH_ready (rs := [3, 5]) (by kernel_rfl) (by simp) ?_
          refine AllReadyH.cons (o := { dst := some 60, op := Op.call { callee := Callee.value (Operand.func 53), args := #[Operand.tmp 59], argTypes := #[123] }, type := 127, pos := "instr.go:64", after := #[{ on := 2, ground := Ground.data }, { on := 1, ground := Ground.chain }, { on := 1, ground := Ground.guard }], guard := some (1, true) }) rfl (fun K hK => ?_) ?_
          · skip
            go_simp
            refine (HS2.out _ _).mono ?_
            rintro e wq ⟨rfl, hnq⟩
            go_wp2_with fail
            have hbx := hp1 hbx hnq
            have hn : (fun w' => New w w' ∧ w'.heap[wa.heap.size]? = some (.cells #[.int .i64 14, .int .i64 ln] 123)) wq := ⟨New.trans hn.1 hnq, hp1 hn.2 hnq⟩
            refine hK.out _ _ (by first | exact hn | exact Upd.alloc hn _) (fun hn => ?_)
            clear hK K
            try simp only [Act.put, List.setIfInBounds_toArray, List.set_cons_zero, List.set_cons_succ]
            refine wpAnyH_ready (rs := [5]) (by kernel_rfl) (by simp) ?_
            refine AllReadyH.cons (o := { dst := some 62, op := Op.load 9 (Operand.tmp 61), type := 9, pos := "instr.go:64", after := #[{ on := 4, ground := Ground.data }, { on := 1, ground := Ground.guard }], guard := some (1, true) }) rfl (fun K hK => ?_) AllReadyH.nil
            have z9 := cellAt hbx 9 (v := .string raw) rfl
            go_simp
            refine hK.out _ _ (by first | exact hn | exact Upd.alloc hn _) (fun hn => ?_)
            clear hK K
            try simp only [Act.put, List.setIfInBounds_toArray, List.set_cons_zero, List.set_cons_succ]
            refine wpAnyH_take (i := 6) (oi := { dst := some 63, op := Op.call { callee := Callee.builtin Builtin.len, args := #[Operand.tmp 62], argTypes := #[9] }, type := 3, pos := "instr.go:64", after := #[{ on := 5, ground := Ground.data }, { on := 1, ground := Ground.guard }], guard := some (1, true) }) (v := ?v12x5) rfl (by kernel_rfl) (by kernel_rfl) (by kernel_rfl) (fun _ _ _ h => h) (Or.inl ⟨by rfl, ?y12x5⟩) hn ?r12x5
            case y12x5 => (intro wS hS; (try go_simp); (try with_reducible rfl))
            try simp only [Act.put, List.setIfInBounds_toArray, List.set_cons_zero, List.set_cons_succ]
            refine wpAnyH_ready (rs := [7]) (by kernel_rfl) (by simp) ?_
            refine AllReadyH.cons (o := { dst := some 64, op := Op.call { callee := Callee.value (Operand.func 54), args := #[Operand.tmp 60, Operand.tmp 63], argTypes := #[127, 3] }, type := 4, pos := "instr.go:64", after := #[{ on := 3, ground := Ground.data }, { on := 6, ground := Ground.data }, { on := 3, ground := Ground.chain }, { on := 1, ground := Ground.guard }], guard := some (1, true) }) rfl (fun K hK => ?_) AllReadyH.nil
            go_simp
            refine (HH2.out _).mono ?_
            rintro e wr ⟨rfl, hnq⟩
            go_wp2_with fail
            have hbx := hp1 hbx hnq
            have hn : (fun w' => New w w' ∧ w'.heap[wa.heap.size]? = some (.cells #[.int .i64 14, .int .i64 ln] 123)) wr := ⟨New.trans hn.1 hnq, hp1 hn.2 hnq⟩
            refine hK.out _ _ (by first | exact hn | exact Upd.alloc hn _) (fun hn => ?_)
            clear hK K
            try simp only [Act.put, List.setIfInBounds_toArray, List.set_cons_zero, List.set_cons_succ]
            refine wpAnyH_take (i := 8) (oi := { dst := some 65, op := Op.pick (Operand.tmp 58) (Operand.tmp 64) (Operand.const (Value.bool false)), type := 4, pos := "instr.go:64", after := #[{ on := 1, ground := Ground.data }, { on := 7, ground := Ground.data }], guard := none }) (v := ?v12x6) rfl (by kernel_rfl) (by kernel_rfl) (by kernel_rfl) (fun _ _ _ h => h) (Or.inl ⟨by rfl, ?y12x6⟩) hn ?r12x6
            case y12x6 => (intro wS hS; (try go_simp); (try with_reducible rfl))
            try simp only [Act.put, List.setIfInBounds_toArray, List.set_cons_zero, List.set_cons_succ]
            refine wpAnyH_take (i := 9) (oi := { dst := some 66, op := Op.move (Operand.tmp 65), type := 4, pos := "instr.go:64", after := #[{ on := 8, ground := Ground.data }, { on := 7, ground := Ground.chain }], guard := none }) (v := ?v12x7) rfl (by kernel_rfl) (by kernel_rfl) (by kernel_rfl) (fun _ _ _ h => h) (Or.inl ⟨by rfl, ?y12x7⟩) hn ?r12x7
            case y12x7 => (intro wS hS; (try go_simp); (try with_reducible rfl))
            try simp only [Act.put, List.setIfInBounds_toArray, List.set_cons_zero, List.set_cons_succ]
            refine wpAnyH_take (i := 10) (oi := { dst := some 67, op := Op.fieldAddr 123 (Operand.tmp 3) 0, type := 0, pos := "instr.go:64", after := #[{ on := 9, ground := Ground.guard }], guard := some (9, true) }) (v := ?v12x8) rfl (by kernel_rfl) (by kernel_rfl) (by kernel_rfl) (fun _ _ _ h => h) (Or.inl ⟨by rfl, ?y12x8⟩) hn ?r12x8
            case y12x8 => (intro wS hS; (try go_simp); (try with_reducible rfl))
            try simp only [Act.put, List.setIfInBounds_toArray, List.set_cons_zero, List.set_cons_succ]
            refine wpAnyH_take (i := 11) (oi := { dst := some 68, op := Op.load 3 (Operand.tmp 67), type := 3, pos := "instr.go:64", after := #[{ on := 10, ground := Ground.data }, { on := 9, ground := Ground.guard }], guard := some (9, true) }) (v := ?v12x9) rfl (by kernel_rfl) (by kernel_rfl) (by kernel_rfl) (fun _ _ _ h => h) (Or.inl ⟨by rfl, ?y12x9⟩) hn ?r12x9
            case y12x9 => (intro wS hS; have c0 := cellAt hS.2 0 rfl; (try go_simp); (try with_reducible rfl))
            try simp only [Act.put, List.setIfInBounds_toArray, List.set_cons_zero, List.set_cons_succ]
            refine wpAnyH_take (i := 12) (oi := { dst := some 69, op := Op.binOp BinOp.neq 3 (Operand.tmp 68) (Operand.const (Value.int IntKind.i64 14)) 3, type := 4, pos := "instr.go:64", after := #[{ on := 11, ground := Ground.data }, { on := 9, ground := Ground.guard }], guard := some (9, true) }) (v := ?v12x10) rfl (by kernel_rfl) (by kernel_rfl) (by kernel_rfl) (fun _ _ _ h => h) (Or.inl ⟨by rfl, ?y12x10⟩) hn ?r12x10
            case y12x10 => (intro wS hS; (try go_simp); (try with_reducible rfl))
            try simp only [Act.put, List.setIfInBounds_toArray, List.set_cons_zero, List.set_cons_succ]
            refine wpAnyH_take (i := 13) (oi := { dst := some 70, op := Op.move (Operand.tmp 69), type := 4, pos := "instr.go:64", after := #[{ on := 12, ground := Ground.data }, { on := 9, ground := Ground.chain }, { on := 9, ground := Ground.guard }], guard := some (9, true) }) (v := ?v12x11) rfl (by kernel_rfl) (by kernel_rfl) (by kernel_rfl) (fun _ _ _ h => h) (Or.inl ⟨by rfl, ?y12x11⟩) hn ?r12x11
            case y12x11 => (intro wS hS; (try go_simp); (try with_reducible rfl))
            try simp only [Act.put, List.setIfInBounds_toArray, List.set_cons_zero, List.set_cons_succ]
            refine wpAnyH_take (i := 14) (oi := { dst := some 71, op := Op.fieldAddr 93 (Operand.tmp 1) 6, type := 0, pos := "instr.go:64", after := #[{ on := 13, ground := Ground.guard }], guard := some (13, false) }) (v := ?v12x12) rfl (by kernel_rfl) (by kernel_rfl) (by kernel_rfl) (fun _ _ _ h => h) (Or.inl ⟨by rfl, ?y12x12⟩) hn ?r12x12
            case y12x12 => (intro wS hS; (try go_simp); (try with_reducible rfl))
            try simp only [Act.put, List.setIfInBounds_toArray, List.set_cons_zero, List.set_cons_succ]
            refine wpAnyH_ready (rs := [15]) (by kernel_rfl) (by simp) ?_
            refine AllReadyH.cons (o := { dst := some 72, op := Op.load 9 (Operand.tmp 71), type := 9, pos := "instr.go:64", after := #[{ on := 14, ground := Ground.data }, { on := 13, ground := Ground.guard }], guard := some (13, false) }) rfl (fun K hK => ?_) AllReadyH.nil
            have z9 := cellAt hbx 9 (v := .string raw) rfl
            go_simp
            refine hK.out _ _ (by first | exact hn | exact Upd.alloc hn _) (fun hn => ?_)
            clear hK K
            try simp only [Act.put, List.setIfInBounds_toArray, List.set_cons_zero, List.set_cons_succ]
            refine wpAnyH_ready (rs := [16]) (by kernel_rfl) (by simp) ?_
            refine AllReadyH.cons (o := { dst := some 73, op := Op.call { callee := Callee.value (Operand.func 55), args := #[Operand.tmp 72], argTypes := #[9] }, type := 4, pos := "instr.go:64", after := #[{ on := 15, ground := Ground.data }, { on := 13, ground := Ground.chain }, { on := 13, ground := Ground.guard }], guard := some (13, false) }) rfl (fun K hK => ?_) AllReadyH.nil
            go_simp
            refine (HSH.out _).mono ?_
            rintro e wt ⟨rfl, hnq⟩
            go_wp2_with fail
            have hbx := hp1 hbx hnq
            have hn : (fun w' => New w w' ∧ w'.heap[wa.heap.size]? = some (.cells #[.int .i64 14, .int .i64 ln] 123)) wt := ⟨New.trans hn.1 hnq, hp1 hn.2 hnq⟩
            refine hK.out _ _ (by first | exact hn | exact Upd.alloc hn _) (fun hn => ?_)
            clear hK K
            try simp only [Act.put, List.setIfInBounds_toArray, List.set_cons_zero, List.set_cons_succ]
            refine wpAnyH_take (i := 17) (oi := { dst := some 74, op := Op.pick (Operand.tmp 70) (Operand.const (Value.bool true)) (Operand.tmp 73), type := 4, pos := "instr.go:64", after := #[{ on := 13, ground := Ground.data }, { on := 16, ground := Ground.data }, { on := 9, ground := Ground.guard }], guard := some (9, true) }) (v := ?v12x13) rfl (by kernel_rfl) (by kernel_rfl) (by kernel_rfl) (fun _ _ _ h => h) (Or.inl ⟨by rfl, ?y12x13⟩) hn ?r12x13
            case y12x13 => (intro wS hS; (try go_simp); (try with_reducible rfl))
            try simp only [Act.put, List.setIfInBounds_toArray, List.set_cons_zero, List.set_cons_succ]
            refine wpAnyH_take (i := 18) (oi := { dst := some 75, op := Op.pick (Operand.tmp 66) (Operand.tmp 74) (Operand.const (Value.bool false)), type := 4, pos := "instr.go:64", after := #[{ on := 9, ground := Ground.data }, { on := 17, ground := Ground.data }], guard := none }) (v := ?v12x14) rfl (by kernel_rfl) (by kernel_rfl) (by kernel_rfl) (fun _ _ _ h => h) (Or.inl ⟨by rfl, ?y12x14⟩) hn ?r12x14
            case y12x14 => (intro wS hS; (try go_simp); (try with_reducible rfl))
            try simp only [Act.put, List.setIfInBounds_toArray, List.set_cons_zero, List.set_cons_succ]
            refine wpAnyH_take (i := 19) (oi := { dst := some 4, op := Op.assign (Operand.tmp 75), type := 4, pos := "instr.go:64", after := #[{ on := 18, ground := Ground.data }, { on := 16, ground := Ground.chain }, { on := 0, ground := Ground.phase }, { on := 1, ground := Ground.phase }, { on := 2, ground := Ground.phase }, { on := 3, ground := Ground.phase }, { on := 4, ground := Ground.phase }, { on := 5, ground := Ground.phase }, { on := 6, ground := Ground.phase }, { on := 7, ground := Ground.phase }, { on := 8, ground := Ground.phase }, { on := 9, ground := Ground.phase }, { on := 10, ground := Ground.phase }, { on := 11, ground := Ground.phase }, { on := 12, ground := Ground.phase }, { on := 13, ground := Ground.phase }, { on := 14, ground := Ground.phase }, { on := 15, ground := Ground.phase }, { on := 16, ground := Ground.phase }, { on := 17, ground := Ground.phase }, { on := 18, ground := Ground.phase }], guard := none }) (v := ?v12x15) rfl (by kernel_rfl) (by kernel_rfl) (by kernel_rfl) (fun _ _ _ h => h) (Or.inl ⟨by rfl, ?y12x15⟩) hn ?r12x15
            case y12x15 => (intro wS hS; (try go_simp); (try with_reducible rfl))
            try simp only [Act.put, List.setIfInBounds_toArray, List.set_cons_zero, List.set_cons_succ]
            refine wpAnyH_take (i := 20) (oi := { dst := some 76, op := Op.fieldAddr 93 (Operand.tmp 1) 6, type := 0, pos := "instr.go:64", after := #[{ on := 0, ground := Ground.phase }, { on := 1, ground := Ground.phase }, { on := 2, ground := Ground.phase }, { on := 3, ground := Ground.phase }, { on := 4, ground := Ground.phase }, { on := 5, ground := Ground.phase }, { on := 6, ground := Ground.phase }, { on := 7, ground := Ground.phase }, { on := 8, ground := Ground.phase }, { on := 9, ground := Ground.phase }, { on := 10, ground := Ground.phase }, { on := 11, ground := Ground.phase }, { on := 12, ground := Ground.phase }, { on := 13, ground := Ground.phase }, { on := 14, ground := Ground.phase }, { on := 15, ground := Ground.phase }, { on := 16, ground := Ground.phase }, { on := 17, ground := Ground.phase }, { on := 18, ground := Ground.phase }, { on := 19, ground := Ground.phase }], guard := none }) (v := ?v12x16) rfl (by kernel_rfl) (by kernel_rfl) (by kernel_rfl) (fun _ _ _ h => h) (Or.inl ⟨by rfl, ?y12x16⟩) hn ?r12x16
            case y12x16 => (intro wS hS; (try go_simp); (try with_reducible rfl))
            try simp only [Act.put, List.setIfInBounds_toArray, List.set_cons_zero, List.set_cons_succ]
            refine wpAnyH_ready (rs := [21]) (by kernel_rfl) (by simp) ?_
            refine AllReadyH.cons (o := { dst := none, op := Op.store 9 (Operand.tmp 76) (Operand.const (Value.string { data := #[] })), type := 0, pos := "instr.go:64", after := #[{ on := 20, ground := Ground.data }, { on := 19, ground := Ground.chain }, { on := 0, ground := Ground.phase }, { on := 1, ground := Ground.phase }, { on := 2, ground := Ground.phase }, { on := 3, ground := Ground.phase }, { on := 4, ground := Ground.phase }, { on := 5, ground := Ground.phase }, { on := 6, ground := Ground.phase }, { on := 7, ground := Ground.phase }, { on := 8, ground := Ground.phase }, { on := 9, ground := Ground.phase }, { on := 10, ground := Ground.phase }, { on := 11, ground := Ground.phase }, { on := 12, ground := Ground.phase }, { on := 13, ground := Ground.phase }, { on := 14, ground := Ground.phase }, { on := 15, ground := Ground.phase }, { on := 16, ground := Ground.phase }, { on := 17, ground := Ground.phase }, { on := 18, ground := Ground.phase }, { on := 19, ground := Ground.phase }], guard := none }) rfl (fun K hK => ?_) AllReadyH.nil
            have z9 := cellAt hbx 9 (v := .string raw) rfl
            have f9 := frozenAt hbx 9
            go_simp
            have hbx := hp_set hbx 9 (.string ⟨#[]⟩)
            have hn : (fun w' => New w w' ∧ w'.heap[wa.heap.size]? = some (.cells #[.int .i64 14, .int .i64 ln] 123)) (wt.setCell ⟨w.heap.size, 9, none⟩ (.string ⟨#[]⟩)) := ⟨setNew hn.1 9 _, hp_other hn.2 HNE.out⟩
            refine hK.out _ _ (by first | exact hn | exact Upd.alloc hn _) (fun hn => ?_)
            clear hK K
            try simp only [Act.put, List.setIfInBounds_toArray, List.set_cons_zero, List.set_cons_succ]
            refine wpAnyH_done (by kernel_rfl) ?_ _
            refine NoPanic.normal ?_
            go_wp2_with fail
            go_meet
            exact ⟨_, (.slice al li.length cl), (.slice au (lb ty).length cu), rfl, (by have h : raw.size = 16 := (by have := has_eq HBH.out; omega); simp [ownQ, h, small]), hbx, hn.1, HL.out.new hn.1, HU.out.new hn.1⟩
          refine AllReadyH.cons (o := { dst := some 62, op := Op.load 9 (Operand.tmp 61), type := 9, pos := "instr.go:64", after := #[{ on := 4, ground := Ground.data }, { on := 1, ground := Ground.guard }], guard := some (1, true) }) rfl (fun K hK => ?_) AllReadyH.nil
          have z9 := cellAt hbx 9 (v := .string raw) rfl
          go_simp
          refine hK.out _ _ (by first | exact hn | exact Upd.alloc hn _) (fun hn => ?_)
          clear hK K
          try simp only [Act.put, List.setIfInBounds_toArray, List.set_cons_zero, List.set_cons_succ]
          refine wpAnyH_take (i := 6) (oi := { dst := some 63, op := Op.call { callee := Callee.builtin Builtin.len, args := #[Operand.tmp 62], argTypes := #[9] }, type := 3, pos := "instr.go:64", after := #[{ on := 5, ground := Ground.data }, { on := 1, ground := Ground.guard }], guard := some (1, true) }) (v := ?v12x17) rfl (by kernel_rfl) (by kernel_rfl) (by kernel_rfl) (fun _ _ _ h => h) (Or.inl ⟨by rfl, ?y12x17⟩) hn ?r12x17
          case y12x17 => (intro wS hS; (try go_simp); (try with_reducible rfl))
          try simp only [Act.put, List.setIfInBounds_toArray, List.set_cons_zero, List.set_cons_succ]
          refine wpAnyH_ready (rs := [3]) (by kernel_rfl) (by simp) ?_
          refine AllReadyH.cons (o := { dst := some 60, op := Op.call { callee := Callee.value (Operand.func 53), args := #[Operand.tmp 59], argTypes := #[123] }, type := 127, pos := "instr.go:64", after := #[{ on := 2, ground := Ground.data }, { on := 1, ground := Ground.chain }, { on := 1, ground := Ground.guard }], guard := some (1, true) }) rfl (fun K hK => ?_) AllReadyH.nil
          go_simp
          refine (HS2.out _ _).mono ?_
          rintro e wq ⟨rfl, hnq⟩
          go_wp2_with fail
          have hbx := hp1 hbx hnq
          have hn : (fun w' => New w w' ∧ w'.heap[wa.heap.size]? = some (.cells #[.int .i64 14, .int .i64 ln] 123)) wq := ⟨New.trans hn.1 hnq, hp1 hn.2 hnq⟩
          refine hK.out _ _ (by first | exact hn | exact Upd.alloc hn _) (fun hn => ?_)
          clear hK K
          try simp only [Act.put, List.setIfInBounds_toArray, List.set_cons_zero, List.set_cons_succ]
          refine wpAnyH_ready (rs := [7]) (by kernel_rfl) (by simp) ?_
          refine AllReadyH.cons (o := { dst := some 64, op := Op.call { callee := Callee.value (Operand.func 54), args := #[Operand.tmp 60, Operand.tmp 63], argTypes := #[127, 3] }, type := 4, pos := "instr.go:64", after := #[{ on := 3, ground := Ground.data }, { on := 6, ground := Ground.data }, { on := 3, ground := Ground.chain }, { on := 1, ground := Ground.guard }], guard := some (1, true) }) rfl (fun K hK => ?_) AllReadyH.nil
          go_simp
          refine (HH2.out _).mono ?_
          rintro e wr ⟨rfl, hnq⟩
          go_wp2_with fail
          have hbx := hp1 hbx hnq
          have hn : (fun w' => New w w' ∧ w'.heap[wa.heap.size]? = some (.cells #[.int .i64 14, .int .i64 ln] 123)) wr := ⟨New.trans hn.1 hnq, hp1 hn.2 hnq⟩
          refine hK.out _ _ (by first | exact hn | exact Upd.alloc hn _) (fun hn => ?_)
          clear hK K
          try simp only [Act.put, List.setIfInBounds_toArray, List.set_cons_zero, List.set_cons_succ]
          refine wpAnyH_take (i := 8) (oi := { dst := some 65, op := Op.pick (Operand.tmp 58) (Operand.tmp 64) (Operand.const (Value.bool false)), type := 4, pos := "instr.go:64", after := #[{ on := 1, ground := Ground.data }, { on := 7, ground := Ground.data }], guard := none }) (v := ?v12x18) rfl (by kernel_rfl) (by kernel_rfl) (by kernel_rfl) (fun _ _ _ h => h) (Or.inl ⟨by rfl, ?y12x18⟩) hn ?r12x18
          case y12x18 => (intro wS hS; (try go_simp); (try with_reducible rfl))
          try simp only [Act.put, List.setIfInBounds_toArray, List.set_cons_zero, List.set_cons_succ]
          refine wpAnyH_take (i := 9) (oi := { dst := some 66, op := Op.move (Operand.tmp 65), type := 4, pos := "instr.go:64", after := #[{ on := 8, ground := Ground.data }, { on := 7, ground := Ground.chain }], guard := none }) (v := ?v12x19) rfl (by kernel_rfl) (by kernel_rfl) (by kernel_rfl) (fun _ _ _ h => h) (Or.inl ⟨by rfl, ?y12x19⟩) hn ?r12x19
          case y12x19 => (intro wS hS; (try go_simp); (try with_reducible rfl))
          try simp only [Act.put, List.setIfInBounds_toArray, List.set_cons_zero, List.set_cons_succ]
          refine wpAnyH_take (i := 10) (oi := { dst := some 67, op := Op.fieldAddr 123 (Operand.tmp 3) 0, type := 0, pos := "instr.go:64", after := #[{ on := 9, ground := Ground.guard }], guard := some (9, true) }) (v := ?v12x20) rfl (by kernel_rfl) (by kernel_rfl) (by kernel_rfl) (fun _ _ _ h => h) (Or.inl ⟨by rfl, ?y12x20⟩) hn ?r12x20
          case y12x20 => (intro wS hS; (try go_simp); (try with_reducible rfl))
          try simp only [Act.put, List.setIfInBounds_toArray, List.set_cons_zero, List.set_cons_succ]
          refine wpAnyH_take (i := 11) (oi := { dst := some 68, op := Op.load 3 (Operand.tmp 67), type := 3, pos := "instr.go:64", after := #[{ on := 10, ground := Ground.data }, { on := 9, ground := Ground.guard }], guard := some (9, true) }) (v := ?v12x21) rfl (by kernel_rfl) (by kernel_rfl) (by kernel_rfl) (fun _ _ _ h => h) (Or.inl ⟨by rfl, ?y12x21⟩) hn ?r12x21
          case y12x21 => (intro wS hS; have c0 := cellAt hS.2 0 rfl; (try go_simp); (try with_reducible rfl))
          try simp only [Act.put, List.setIfInBounds_toArray, List.set_cons_zero, List.set_cons_succ]
          refine wpAnyH_take (i := 12) (oi := { dst := some 69, op := Op.binOp BinOp.neq 3 (Operand.tmp 68) (Operand.const (Value.int IntKind.i64 14)) 3, type := 4, pos := "instr.go:64", after := #[{ on := 11, ground := Ground.data }, { on := 9, ground := Ground.guard }], guard := some (9, true) }) (v := ?v12x22) rfl (by kernel_rfl) (by kernel_rfl) (by kernel_rfl) (fun _ _ _ h => h) (Or.inl ⟨by rfl, ?y12x22⟩) hn ?r12x22
          case y12x22 => (intro wS hS; (try go_simp); (try with_reducible rfl))
          try simp only [Act.put, List.setIfInBounds_toArray, List.set_cons_zero, List.set_cons_succ]
          refine wpAnyH_take (i := 13) (oi := { dst := some 70, op := Op.move (Operand.tmp 69), type := 4, pos := "instr.go:64", after := #[{ on := 12, ground := Ground.data }, { on := 9, ground := Ground.chain }, { on := 9, ground := Ground.guard }], guard := some (9, true) }) (v := ?v12x23) rfl (by kernel_rfl) (by kernel_rfl) (by kernel_rfl) (fun _ _ _ h => h) (Or.inl ⟨by rfl, ?y12x23⟩) hn ?r12x23
          case y12x23 => (intro wS hS; (try go_simp); (try with_reducible rfl))
          try simp only [Act.put, List.setIfInBounds_toArray, List.set_cons_zero, List.set_cons_succ]
          refine wpAnyH_take (i := 14) (oi := { dst := some 71, op := Op.fieldAddr 93 (Operand.tmp 1) 6, type := 0, pos := "instr.go:64", after := #[{ on := 13, ground := Ground.guard }], guard := some (13, false) }) (v := ?v12x24) rfl (by kernel_rfl) (by kernel_rfl) (by kernel_rfl) (fun _ _ _ h => h) (Or.inl ⟨by rfl, ?y12x24⟩) hn ?r12x24
          case y12x24 => (intro wS hS; (try go_simp); (try with_reducible rfl))
          try simp only [Act.put, List.setIfInBounds_toArray, List.set_cons_zero, List.set_cons_succ]
          refine wpAnyH_ready (rs := [15]) (by kernel_rfl) (by simp) ?_
          refine AllReadyH.cons (o := { dst := some 72, op := Op.load 9 (Operand.tmp 71), type := 9, pos := "instr.go:64", after := #[{ on := 14, ground := Ground.data }, { on := 13, ground := Ground.guard }], guard := some (13, false) }) rfl (fun K hK => ?_) AllReadyH.nil
          have z9 := cellAt hbx 9 (v := .string raw) rfl
          go_simp
          refine hK.out _ _ (by first | exact hn | exact Upd.alloc hn _) (fun hn => ?_)
          clear hK K
          try simp only [Act.put, List.setIfInBounds_toArray, List.set_cons_zero, List.set_cons_succ]
          refine wpAnyH_ready (rs := [16]) (by kernel_rfl) (by simp) ?_
          refine AllReadyH.cons (o := { dst := some 73, op := Op.call { callee := Callee.value (Operand.func 55), args := #[Operand.tmp 72], argTypes := #[9] }, type := 4, pos := "instr.go:64", after := #[{ on := 15, ground := Ground.data }, { on := 13, ground := Ground.chain }, { on := 13, ground := Ground.guard }], guard := some (13, false) }) rfl (fun K hK => ?_) AllReadyH.nil
          go_simp
          refine (HSH.out _).mono ?_
          rintro e wt ⟨rfl, hnq⟩
          go_wp2_with fail
          have hbx := hp1 hbx hnq
          have hn : (fun w' => New w w' ∧ w'.heap[wa.heap.size]? = some (.cells #[.int .i64 14, .int .i64 ln] 123)) wt := ⟨New.trans hn.1 hnq, hp1 hn.2 hnq⟩
          refine hK.out _ _ (by first | exact hn | exact Upd.alloc hn _) (fun hn => ?_)
          clear hK K
          try simp only [Act.put, List.setIfInBounds_toArray, List.set_cons_zero, List.set_cons_succ]
          refine wpAnyH_take (i := 17) (oi := { dst := some 74, op := Op.pick (Operand.tmp 70) (Operand.const (Value.bool true)) (Operand.tmp 73), type := 4, pos := "instr.go:64", after := #[{ on := 13, ground := Ground.data }, { on := 16, ground := Ground.data }, { on := 9, ground := Ground.guard }], guard := some (9, true) }) (v := ?v12x25) rfl (by kernel_rfl) (by kernel_rfl) (by kernel_rfl) (fun _ _ _ h => h) (Or.inl ⟨by rfl, ?y12x25⟩) hn ?r12x25
          case y12x25 => (intro wS hS; (try go_simp); (try with_reducible rfl))
          try simp only [Act.put, List.setIfInBounds_toArray, List.set_cons_zero, List.set_cons_succ]
          refine wpAnyH_take (i := 18) (oi := { dst := some 75, op := Op.pick (Operand.tmp 66) (Operand.tmp 74) (Operand.const (Value.bool false)), type := 4, pos := "instr.go:64", after := #[{ on := 9, ground := Ground.data }, { on := 17, ground := Ground.data }], guard := none }) (v := ?v12x26) rfl (by kernel_rfl) (by kernel_rfl) (by kernel_rfl) (fun _ _ _ h => h) (Or.inl ⟨by rfl, ?y12x26⟩) hn ?r12x26
          case y12x26 => (intro wS hS; (try go_simp); (try with_reducible rfl))
          try simp only [Act.put, List.setIfInBounds_toArray, List.set_cons_zero, List.set_cons_succ]
          refine wpAnyH_take (i := 19) (oi := { dst := some 4, op := Op.assign (Operand.tmp 75), type := 4, pos := "instr.go:64", after := #[{ on := 18, ground := Ground.data }, { on := 16, ground := Ground.chain }, { on := 0, ground := Ground.phase }, { on := 1, ground := Ground.phase }, { on := 2, ground := Ground.phase }, { on := 3, ground := Ground.phase }, { on := 4, ground := Ground.phase }, { on := 5, ground := Ground.phase }, { on := 6, ground := Ground.phase }, { on := 7, ground := Ground.phase }, { on := 8, ground := Ground.phase }, { on := 9, ground := Ground.phase }, { on := 10, ground := Ground.phase }, { on := 11, ground := Ground.phase }, { on := 12, ground := Ground.phase }, { on := 13, ground := Ground.phase }, { on := 14, ground := Ground.phase }, { on := 15, ground := Ground.phase }, { on := 16, ground := Ground.phase }, { on := 17, ground := Ground.phase }, { on := 18, ground := Ground.phase }], guard := none }) (v := ?v12x27) rfl (by kernel_rfl) (by kernel_rfl) (by kernel_rfl) (fun _ _ _ h => h) (Or.inl ⟨by rfl, ?y12x27⟩) hn ?r12x27
          case y12x27 => (intro wS hS; (try go_simp); (try with_reducible rfl))
          try simp only [Act.put, List.setIfInBounds_toArray, List.set_cons_zero, List.set_cons_succ]
          refine wpAnyH_take (i := 20) (oi := { dst := some 76, op := Op.fieldAddr 93 (Operand.tmp 1) 6, type := 0, pos := "instr.go:64", after := #[{ on := 0, ground := Ground.phase }, { on := 1, ground := Ground.phase }, { on := 2, ground := Ground.phase }, { on := 3, ground := Ground.phase }, { on := 4, ground := Ground.phase }, { on := 5, ground := Ground.phase }, { on := 6, ground := Ground.phase }, { on := 7, ground := Ground.phase }, { on := 8, ground := Ground.phase }, { on := 9, ground := Ground.phase }, { on := 10, ground := Ground.phase }, { on := 11, ground := Ground.phase }, { on := 12, ground := Ground.phase }, { on := 13, ground := Ground.phase }, { on := 14, ground := Ground.phase }, { on := 15, ground := Ground.phase }, { on := 16, ground := Ground.phase }, { on := 17, ground := Ground.phase }, { on := 18, ground := Ground.phase }, { on := 19, ground := Ground.phase }], guard := none }) (v := ?v12x28) rfl (by kernel_rfl) (by kernel_rfl) (by kernel_rfl) (fun _ _ _ h => h) (Or.inl ⟨by rfl, ?y12x28⟩) hn ?r12x28
          case y12x28 => (intro wS hS; (try go_simp); (try with_reducible rfl))
          try simp only [Act.put, List.setIfInBounds_toArray, List.set_cons_zero, List.set_cons_succ]
          refine wpAnyH_ready (rs := [21]) (by kernel_rfl) (by simp) ?_
          refine AllReadyH.cons (o := { dst := none, op := Op.store 9 (Operand.tmp 76) (Operand.const (Value.string { data := #[] })), type := 0, pos := "instr.go:64", after := #[{ on := 20, ground := Ground.data }, { on := 19, ground := Ground.chain }, { on := 0, ground := Ground.phase }, { on := 1, ground := Ground.phase }, { on := 2, ground := Ground.phase }, { on := 3, ground := Ground.phase }, { on := 4, ground := Ground.phase }, { on := 5, ground := Ground.phase }, { on := 6, ground := Ground.phase }, { on := 7, ground := Ground.phase }, { on := 8, ground := Ground.phase }, { on := 9, ground := Ground.phase }, { on := 10, ground := Ground.phase }, { on := 11, ground := Ground.phase }, { on := 12, ground := Ground.phase }, { on := 13, ground := Ground.phase }, { on := 14, ground := Ground.phase }, { on := 15, ground := Ground.phase }, { on := 16, ground := Ground.phase }, { on := 17, ground := Ground.phase }, { on := 18, ground := Ground.phase }, { on := 19, ground := Ground.phase }], guard := none }) rfl (fun K hK => ?_) AllReadyH.nil
          have z9 := cellAt hbx 9 (v := .string raw) rfl
          have f9 := frozenAt hbx 9
          go_simp
          have hbx := hp_set hbx 9 (.string ⟨#[]⟩)
          have hn : (fun w' => New w w' ∧ w'.heap[wa.heap.size]? = some (.cells #[.int .i64 14, .int .i64 ln] 123)) (wt.setCell ⟨w.heap.size, 9, none⟩ (.string ⟨#[]⟩)) := ⟨setNew hn.1 9 _, hp_other hn.2 HNE.out⟩
          refine hK.out _ _ (by first | exact hn | exact Upd.alloc hn _) (fun hn => ?_)
          clear hK K
          try simp only [Act.put, List.setIfInBounds_toArray, List.set_cons_zero, List.set_cons_succ]
          refine wpAnyH_done (by kernel_rfl) ?_ _
          refine NoPanic.normal ?_
          go_wp2_with fail
          go_meet
          exact ⟨_, (.slice al li.length cl), (.slice au (lb ty).length cu), rfl, (by have h : raw.size = 16 := (by have := has_eq HBH.out; omega); simp [ownQ, h, small]), hbx, hn.1, HL.out.new hn.1, HU.out.new hn.1⟩
        | false =>
          have hn : (fun w' => New w w' ∧ w'.heap[wa.heap.size]? = some (.cells #[.int .i64 14, .int .i64 ln] 123)) wb.drew := ⟨HN.out.drew, HI.out⟩
          have hbx : Box wb.drew w.heap.size ⟨p, c, k, t, i, x, y, li, n, raw, lane, ty⟩ (.slice al li.length cl) (.slice au (lb ty).length cu) := HB.out
          clear y0 y1 z9 f9
          go_wp2_with fail
          refine wp_region_noPanic ?_
          refine wp_region_held_drew (S := (fun w' => New w w' ∧ w'.heap[wa.heap.size]? = some (.cells #[.int .i64 14, .int .i64 ln] 123))) (by kernel_rfl) (by first | exact hn | exact (Upd.refl _ _).drew | exact Upd.drew (by assumption)) (fun hn => ?_)
          generalize wb.drew = wd at *
          refine wpAnyH_take (i := 0) (oi := { dst := some 57, op := Op.move (Operand.tmp 4), type := 4, pos := "instr.go:64", after := #[], guard := none }) (v := ?v13x1) rfl (by kernel_rfl) (by kernel_rfl) (by kernel_rfl) (fun _ _ _ h => h) (Or.inl ⟨by rfl, ?y13x1⟩) hn ?r13x1
          case y13x1 => (intro wS hS; (try go_simp); (try with_reducible rfl))
          try simp only [Act.put, List.setIfInBounds_toArray, List.set_cons_zero, List.set_cons_succ]
          refine wpAnyH_take (i := 1) (oi := { dst := some 58, op := Op.move (Operand.tmp 57), type := 4, pos := "instr.go:64", after := #[{ on := 0, ground := Ground.data }], guard := none }) (v := ?v13x2) rfl (by kernel_rfl) (by kernel_rfl) (by kernel_rfl) (fun _ _ _ h => h) (Or.inl ⟨by rfl, ?y13x2⟩) hn ?r13x2
          case y13x2 => (intro wS hS; (try go_simp); (try with_reducible rfl))
          try simp only [Act.put, List.setIfInBounds_toArray, List.set_cons_zero, List.set_cons_succ]
          refine wpAnyH_take (i := 2) (oi := { dst := some 59, op := Op.load 123 (Operand.tmp 3), type := 123, pos := "instr.go:64", after := #[{ on := 1, ground := Ground.guard }], guard := some (1, true) }) (v := ?v13x3) rfl (by kernel_rfl) (by kernel_rfl) (by kernel_rfl) (fun _ _ _ h => h) (Or.inl ⟨by rfl, ?y13x3⟩) hn ?r13x3
          case y13x3 => (intro wS hS; have c0 := cellAt hS.2 0 rfl; have c1 := cellAt hS.2 1 rfl; (try go_simp); (try with_reducible rfl))
          try simp only [Act.put, List.setIfInBounds_toArray, List.set_cons_zero, List.set_cons_succ]
          refine wpAnyH_take (i := 4) (oi := { dst := some 61, op := Op.fieldAddr 93 (Operand.tmp 1) 6, type := 0, pos := "instr.go:64", after := #[{ on := 1, ground := Ground.guard }], guard := some (1, true) }) (v := ?v13x4) rfl (by kernel_rfl) (by kernel_rfl) (by kernel_rfl) (fun _ _ _ h => h) (Or.inl ⟨by rfl, ?y13x4⟩) hn ?r13x4
          case y13x4 => (intro wS hS; (try go_simp); (try with_reducible rfl))
          try simp only [Act.put, List.setIfInBounds_toArray, List.set_cons_zero, List.set_cons_succ]
          refine wpAnyH_ready (rs := [3, 5]) (by kernel_rfl) (by simp) ?_
          refine AllReadyH.cons (o := { dst := some 60, op := Op.call { callee := Callee.value (Operand.func 53), args := #[Operand.tmp 59], argTypes := #[123] }, type := 127, pos := "instr.go:64", after := #[{ on := 2, ground := Ground.data }, { on := 1, ground := Ground.chain }, { on := 1, ground := Ground.guard }], guard := some (1, true) }) rfl (fun K hK => ?_) ?_
          · skip
            go_simp
            refine (HS2.out _ _).mono ?_
            rintro e wq ⟨rfl, hnq⟩
            go_wp2_with fail
            have hbx := hp1 hbx hnq
            have hn : (fun w' => New w w' ∧ w'.heap[wa.heap.size]? = some (.cells #[.int .i64 14, .int .i64 ln] 123)) wq := ⟨New.trans hn.1 hnq, hp1 hn.2 hnq⟩
            refine hK.out _ _ (by first | exact hn | exact Upd.alloc hn _) (fun hn => ?_)
            clear hK K
            try simp only [Act.put, List.setIfInBounds_toArray, List.set_cons_zero, List.set_cons_succ]
            refine wpAnyH_ready (rs := [5]) (by kernel_rfl) (by simp) ?_
            refine AllReadyH.cons (o := { dst := some 62, op := Op.load 9 (Operand.tmp 61), type := 9, pos := "instr.go:64", after := #[{ on := 4, ground := Ground.data }, { on := 1, ground := Ground.guard }], guard := some (1, true) }) rfl (fun K hK => ?_) AllReadyH.nil
            have z9 := cellAt hbx 9 (v := .string raw) rfl
            go_simp
            refine hK.out _ _ (by first | exact hn | exact Upd.alloc hn _) (fun hn => ?_)
            clear hK K
            try simp only [Act.put, List.setIfInBounds_toArray, List.set_cons_zero, List.set_cons_succ]
            refine wpAnyH_take (i := 6) (oi := { dst := some 63, op := Op.call { callee := Callee.builtin Builtin.len, args := #[Operand.tmp 62], argTypes := #[9] }, type := 3, pos := "instr.go:64", after := #[{ on := 5, ground := Ground.data }, { on := 1, ground := Ground.guard }], guard := some (1, true) }) (v := ?v13x5) rfl (by kernel_rfl) (by kernel_rfl) (by kernel_rfl) (fun _ _ _ h => h) (Or.inl ⟨by rfl, ?y13x5⟩) hn ?r13x5
            case y13x5 => (intro wS hS; (try go_simp); (try with_reducible rfl))
            try simp only [Act.put, List.setIfInBounds_toArray, List.set_cons_zero, List.set_cons_succ]
            refine wpAnyH_ready (rs := [7]) (by kernel_rfl) (by simp) ?_
            refine AllReadyH.cons (o := { dst := some 64, op := Op.call { callee := Callee.value (Operand.func 54), args := #[Operand.tmp 60, Operand.tmp 63], argTypes := #[127, 3] }, type := 4, pos := "instr.go:64", after := #[{ on := 3, ground := Ground.data }, { on := 6, ground := Ground.data }, { on := 3, ground := Ground.chain }, { on := 1, ground := Ground.guard }], guard := some (1, true) }) rfl (fun K hK => ?_) AllReadyH.nil
            go_simp
            refine (HH2.out _).mono ?_
            rintro e wr ⟨rfl, hnq⟩
            go_wp2_with fail
            have hbx := hp1 hbx hnq
            have hn : (fun w' => New w w' ∧ w'.heap[wa.heap.size]? = some (.cells #[.int .i64 14, .int .i64 ln] 123)) wr := ⟨New.trans hn.1 hnq, hp1 hn.2 hnq⟩
            refine hK.out _ _ (by first | exact hn | exact Upd.alloc hn _) (fun hn => ?_)
            clear hK K
            try simp only [Act.put, List.setIfInBounds_toArray, List.set_cons_zero, List.set_cons_succ]
            refine wpAnyH_take (i := 8) (oi := { dst := some 65, op := Op.pick (Operand.tmp 58) (Operand.tmp 64) (Operand.const (Value.bool false)), type := 4, pos := "instr.go:64", after := #[{ on := 1, ground := Ground.data }, { on := 7, ground := Ground.data }], guard := none }) (v := ?v13x6) rfl (by kernel_rfl) (by kernel_rfl) (by kernel_rfl) (fun _ _ _ h => h) (Or.inl ⟨by rfl, ?y13x6⟩) hn ?r13x6
            case y13x6 => (intro wS hS; (try go_simp); (try with_reducible rfl))
            try simp only [Act.put, List.setIfInBounds_toArray, List.set_cons_zero, List.set_cons_succ]
            refine wpAnyH_take (i := 9) (oi := { dst := some 66, op := Op.move (Operand.tmp 65), type := 4, pos := "instr.go:64", after := #[{ on := 8, ground := Ground.data }, { on := 7, ground := Ground.chain }], guard := none }) (v := ?v13x7) rfl (by kernel_rfl) (by kernel_rfl) (by kernel_rfl) (fun _ _ _ h => h) (Or.inl ⟨by rfl, ?y13x7⟩) hn ?r13x7
            case y13x7 => (intro wS hS; (try go_simp); (try with_reducible rfl))
            try simp only [Act.put, List.setIfInBounds_toArray, List.set_cons_zero, List.set_cons_succ]
            refine wpAnyH_take (i := 10) (oi := { dst := some 67, op := Op.fieldAddr 123 (Operand.tmp 3) 0, type := 0, pos := "instr.go:64", after := #[{ on := 9, ground := Ground.guard }], guard := some (9, true) }) (v := undef) rfl (by kernel_rfl) (by kernel_rfl) (by kernel_rfl) (fun _ _ _ h => h) (Or.inr ⟨by rfl, rfl⟩) hn ?_
            try simp only [Act.put, List.setIfInBounds_toArray, List.set_cons_zero, List.set_cons_succ]
            refine wpAnyH_take (i := 11) (oi := { dst := some 68, op := Op.load 3 (Operand.tmp 67), type := 3, pos := "instr.go:64", after := #[{ on := 10, ground := Ground.data }, { on := 9, ground := Ground.guard }], guard := some (9, true) }) (v := undef) rfl (by kernel_rfl) (by kernel_rfl) (by kernel_rfl) (fun _ _ _ h => h) (Or.inr ⟨by rfl, rfl⟩) hn ?_
            try simp only [Act.put, List.setIfInBounds_toArray, List.set_cons_zero, List.set_cons_succ]
            refine wpAnyH_take (i := 12) (oi := { dst := some 69, op := Op.binOp BinOp.neq 3 (Operand.tmp 68) (Operand.const (Value.int IntKind.i64 14)) 3, type := 4, pos := "instr.go:64", after := #[{ on := 11, ground := Ground.data }, { on := 9, ground := Ground.guard }], guard := some (9, true) }) (v := undef) rfl (by kernel_rfl) (by kernel_rfl) (by kernel_rfl) (fun _ _ _ h => h) (Or.inr ⟨by rfl, rfl⟩) hn ?_
            try simp only [Act.put, List.setIfInBounds_toArray, List.set_cons_zero, List.set_cons_succ]
            refine wpAnyH_take (i := 13) (oi := { dst := some 70, op := Op.move (Operand.tmp 69), type := 4, pos := "instr.go:64", after := #[{ on := 12, ground := Ground.data }, { on := 9, ground := Ground.chain }, { on := 9, ground := Ground.guard }], guard := some (9, true) }) (v := undef) rfl (by kernel_rfl) (by kernel_rfl) (by kernel_rfl) (fun _ _ _ h => h) (Or.inr ⟨by rfl, rfl⟩) hn ?_
            try simp only [Act.put, List.setIfInBounds_toArray, List.set_cons_zero, List.set_cons_succ]
            refine wpAnyH_take (i := 14) (oi := { dst := some 71, op := Op.fieldAddr 93 (Operand.tmp 1) 6, type := 0, pos := "instr.go:64", after := #[{ on := 13, ground := Ground.guard }], guard := some (13, false) }) (v := undef) rfl (by kernel_rfl) (by kernel_rfl) (by kernel_rfl) (fun _ _ _ h => h) (Or.inr ⟨by rfl, rfl⟩) hn ?_
            try simp only [Act.put, List.setIfInBounds_toArray, List.set_cons_zero, List.set_cons_succ]
            refine wpAnyH_take (i := 15) (oi := { dst := some 72, op := Op.load 9 (Operand.tmp 71), type := 9, pos := "instr.go:64", after := #[{ on := 14, ground := Ground.data }, { on := 13, ground := Ground.guard }], guard := some (13, false) }) (v := undef) rfl (by kernel_rfl) (by kernel_rfl) (by kernel_rfl) (fun _ _ _ h => h) (Or.inr ⟨by rfl, rfl⟩) hn ?_
            try simp only [Act.put, List.setIfInBounds_toArray, List.set_cons_zero, List.set_cons_succ]
            refine wpAnyH_take (i := 16) (oi := { dst := some 73, op := Op.call { callee := Callee.value (Operand.func 55), args := #[Operand.tmp 72], argTypes := #[9] }, type := 4, pos := "instr.go:64", after := #[{ on := 15, ground := Ground.data }, { on := 13, ground := Ground.chain }, { on := 13, ground := Ground.guard }], guard := some (13, false) }) (v := undef) rfl (by kernel_rfl) (by kernel_rfl) (by kernel_rfl) (fun _ _ _ h => h) (Or.inr ⟨by rfl, rfl⟩) hn ?_
            try simp only [Act.put, List.setIfInBounds_toArray, List.set_cons_zero, List.set_cons_succ]
            refine wpAnyH_take (i := 17) (oi := { dst := some 74, op := Op.pick (Operand.tmp 70) (Operand.const (Value.bool true)) (Operand.tmp 73), type := 4, pos := "instr.go:64", after := #[{ on := 13, ground := Ground.data }, { on := 16, ground := Ground.data }, { on := 9, ground := Ground.guard }], guard := some (9, true) }) (v := undef) rfl (by kernel_rfl) (by kernel_rfl) (by kernel_rfl) (fun _ _ _ h => h) (Or.inr ⟨by rfl, rfl⟩) hn ?_
            try simp only [Act.put, List.setIfInBounds_toArray, List.set_cons_zero, List.set_cons_succ]
            refine wpAnyH_take (i := 18) (oi := { dst := some 75, op := Op.pick (Operand.tmp 66) (Operand.tmp 74) (Operand.const (Value.bool false)), type := 4, pos := "instr.go:64", after := #[{ on := 9, ground := Ground.data }, { on := 17, ground := Ground.data }], guard := none }) (v := ?v13x16) rfl (by kernel_rfl) (by kernel_rfl) (by kernel_rfl) (fun _ _ _ h => h) (Or.inl ⟨by rfl, ?y13x16⟩) hn ?r13x16
            case y13x16 => (intro wS hS; (try go_simp); (try with_reducible rfl))
            try simp only [Act.put, List.setIfInBounds_toArray, List.set_cons_zero, List.set_cons_succ]
            refine wpAnyH_take (i := 19) (oi := { dst := some 4, op := Op.assign (Operand.tmp 75), type := 4, pos := "instr.go:64", after := #[{ on := 18, ground := Ground.data }, { on := 16, ground := Ground.chain }, { on := 0, ground := Ground.phase }, { on := 1, ground := Ground.phase }, { on := 2, ground := Ground.phase }, { on := 3, ground := Ground.phase }, { on := 4, ground := Ground.phase }, { on := 5, ground := Ground.phase }, { on := 6, ground := Ground.phase }, { on := 7, ground := Ground.phase }, { on := 8, ground := Ground.phase }, { on := 9, ground := Ground.phase }, { on := 10, ground := Ground.phase }, { on := 11, ground := Ground.phase }, { on := 12, ground := Ground.phase }, { on := 13, ground := Ground.phase }, { on := 14, ground := Ground.phase }, { on := 15, ground := Ground.phase }, { on := 16, ground := Ground.phase }, { on := 17, ground := Ground.phase }, { on := 18, ground := Ground.phase }], guard := none }) (v := ?v13x17) rfl (by kernel_rfl) (by kernel_rfl) (by kernel_rfl) (fun _ _ _ h => h) (Or.inl ⟨by rfl, ?y13x17⟩) hn ?r13x17
            case y13x17 => (intro wS hS; (try go_simp); (try with_reducible rfl))
            try simp only [Act.put, List.setIfInBounds_toArray, List.set_cons_zero, List.set_cons_succ]
            refine wpAnyH_take (i := 20) (oi := { dst := some 76, op := Op.fieldAddr 93 (Operand.tmp 1) 6, type := 0, pos := "instr.go:64", after := #[{ on := 0, ground := Ground.phase }, { on := 1, ground := Ground.phase }, { on := 2, ground := Ground.phase }, { on := 3, ground := Ground.phase }, { on := 4, ground := Ground.phase }, { on := 5, ground := Ground.phase }, { on := 6, ground := Ground.phase }, { on := 7, ground := Ground.phase }, { on := 8, ground := Ground.phase }, { on := 9, ground := Ground.phase }, { on := 10, ground := Ground.phase }, { on := 11, ground := Ground.phase }, { on := 12, ground := Ground.phase }, { on := 13, ground := Ground.phase }, { on := 14, ground := Ground.phase }, { on := 15, ground := Ground.phase }, { on := 16, ground := Ground.phase }, { on := 17, ground := Ground.phase }, { on := 18, ground := Ground.phase }, { on := 19, ground := Ground.phase }], guard := none }) (v := ?v13x18) rfl (by kernel_rfl) (by kernel_rfl) (by kernel_rfl) (fun _ _ _ h => h) (Or.inl ⟨by rfl, ?y13x18⟩) hn ?r13x18
            case y13x18 => (intro wS hS; (try go_simp); (try with_reducible rfl))
            try simp only [Act.put, List.setIfInBounds_toArray, List.set_cons_zero, List.set_cons_succ]
            refine wpAnyH_ready (rs := [21]) (by kernel_rfl) (by simp) ?_
            refine AllReadyH.cons (o := { dst := none, op := Op.store 9 (Operand.tmp 76) (Operand.const (Value.string { data := #[] })), type := 0, pos := "instr.go:64", after := #[{ on := 20, ground := Ground.data }, { on := 19, ground := Ground.chain }, { on := 0, ground := Ground.phase }, { on := 1, ground := Ground.phase }, { on := 2, ground := Ground.phase }, { on := 3, ground := Ground.phase }, { on := 4, ground := Ground.phase }, { on := 5, ground := Ground.phase }, { on := 6, ground := Ground.phase }, { on := 7, ground := Ground.phase }, { on := 8, ground := Ground.phase }, { on := 9, ground := Ground.phase }, { on := 10, ground := Ground.phase }, { on := 11, ground := Ground.phase }, { on := 12, ground := Ground.phase }, { on := 13, ground := Ground.phase }, { on := 14, ground := Ground.phase }, { on := 15, ground := Ground.phase }, { on := 16, ground := Ground.phase }, { on := 17, ground := Ground.phase }, { on := 18, ground := Ground.phase }, { on := 19, ground := Ground.phase }], guard := none }) rfl (fun K hK => ?_) AllReadyH.nil
            have z9 := cellAt hbx 9 (v := .string raw) rfl
            have f9 := frozenAt hbx 9
            go_simp
            have hbx := hp_set hbx 9 (.string ⟨#[]⟩)
            have hn : (fun w' => New w w' ∧ w'.heap[wa.heap.size]? = some (.cells #[.int .i64 14, .int .i64 ln] 123)) (wr.setCell ⟨w.heap.size, 9, none⟩ (.string ⟨#[]⟩)) := ⟨setNew hn.1 9 _, hp_other hn.2 HNE.out⟩
            refine hK.out _ _ (by first | exact hn | exact Upd.alloc hn _) (fun hn => ?_)
            clear hK K
            try simp only [Act.put, List.setIfInBounds_toArray, List.set_cons_zero, List.set_cons_succ]
            refine wpAnyH_done (by kernel_rfl) ?_ _
            refine NoPanic.normal ?_
            go_wp2_with fail
            go_meet
            exact ⟨_, (.slice al li.length cl), (.slice au (lb ty).length cu), rfl, (by have h := has_ne HBH.out; simp [ownQ, h]), hbx, hn.1, HL.out.new hn.1, HU.out.new hn.1⟩
          refine AllReadyH.cons (o := { dst := some 62, op := Op.load 9 (Operand.tmp 61), type := 9, pos := "instr.go:64", after := #[{ on := 4, ground := Ground.data }, { on := 1, ground := Ground.guard }], guard := some (1, true) }) rfl (fun K hK => ?_) AllReadyH.nil
          have z9 := cellAt hbx 9 (v := .string raw) rfl
          go_simp
          refine hK.out _ _ (by first | exact hn | exact Upd.alloc hn _) (fun hn => ?_)
          clear hK K
          try simp only [Act.put, List.setIfInBounds_toArray, List.set_cons_zero, List.set_cons_succ]
          refine wpAnyH_take (i := 6) (oi := { dst := some 63, op := Op.call { callee := Callee.builtin Builtin.len, args := #[Operand.tmp 62], argTypes := #[9] }, type := 3, pos := "instr.go:64", after := #[{ on := 5, ground := Ground.data }, { on := 1, ground := Ground.guard }], guard := some (1, true) }) (v := ?v13x19) rfl (by kernel_rfl) (by kernel_rfl) (by kernel_rfl) (fun _ _ _ h => h) (Or.inl ⟨by rfl, ?y13x19⟩) hn ?r13x19
          case y13x19 => (intro wS hS; (try go_simp); (try with_reducible rfl))
          try simp only [Act.put, List.setIfInBounds_toArray, List.set_cons_zero, List.set_cons_succ]
          refine wpAnyH_ready (rs := [3]) (by kernel_rfl) (by simp) ?_
          refine AllReadyH.cons (o := { dst := some 60, op := Op.call { callee := Callee.value (Operand.func 53), args := #[Operand.tmp 59], argTypes := #[123] }, type := 127, pos := "instr.go:64", after := #[{ on := 2, ground := Ground.data }, { on := 1, ground := Ground.chain }, { on := 1, ground := Ground.guard }], guard := some (1, true) }) rfl (fun K hK => ?_) AllReadyH.nil
          go_simp
          refine (HS2.out _ _).mono ?_
          rintro e wq ⟨rfl, hnq⟩
          go_wp2_with fail
          have hbx := hp1 hbx hnq
          have hn : (fun w' => New w w' ∧ w'.heap[wa.heap.size]? = some (.cells #[.int .i64 14, .int .i64 ln] 123)) wq := ⟨New.trans hn.1 hnq, hp1 hn.2 hnq⟩
          refine hK.out _ _ (by first | exact hn | exact Upd.alloc hn _) (fun hn => ?_)
          clear hK K
          try simp only [Act.put, List.setIfInBounds_toArray, List.set_cons_zero, List.set_cons_succ]
          refine wpAnyH_ready (rs := [7]) (by kernel_rfl) (by simp) ?_
          refine AllReadyH.cons (o := { dst := some 64, op := Op.call { callee := Callee.value (Operand.func 54), args := #[Operand.tmp 60, Operand.tmp 63], argTypes := #[127, 3] }, type := 4, pos := "instr.go:64", after := #[{ on := 3, ground := Ground.data }, { on := 6, ground := Ground.data }, { on := 3, ground := Ground.chain }, { on := 1, ground := Ground.guard }], guard := some (1, true) }) rfl (fun K hK => ?_) AllReadyH.nil
          go_simp
          refine (HH2.out _).mono ?_
          rintro e wr ⟨rfl, hnq⟩
          go_wp2_with fail
          have hbx := hp1 hbx hnq
          have hn : (fun w' => New w w' ∧ w'.heap[wa.heap.size]? = some (.cells #[.int .i64 14, .int .i64 ln] 123)) wr := ⟨New.trans hn.1 hnq, hp1 hn.2 hnq⟩
          refine hK.out _ _ (by first | exact hn | exact Upd.alloc hn _) (fun hn => ?_)
          clear hK K
          try simp only [Act.put, List.setIfInBounds_toArray, List.set_cons_zero, List.set_cons_succ]
          refine wpAnyH_take (i := 8) (oi := { dst := some 65, op := Op.pick (Operand.tmp 58) (Operand.tmp 64) (Operand.const (Value.bool false)), type := 4, pos := "instr.go:64", after := #[{ on := 1, ground := Ground.data }, { on := 7, ground := Ground.data }], guard := none }) (v := ?v13x20) rfl (by kernel_rfl) (by kernel_rfl) (by kernel_rfl) (fun _ _ _ h => h) (Or.inl ⟨by rfl, ?y13x20⟩) hn ?r13x20
          case y13x20 => (intro wS hS; (try go_simp); (try with_reducible rfl))
          try simp only [Act.put, List.setIfInBounds_toArray, List.set_cons_zero, List.set_cons_succ]
          refine wpAnyH_take (i := 9) (oi := { dst := some 66, op := Op.move (Operand.tmp 65), type := 4, pos := "instr.go:64", after := #[{ on := 8, ground := Ground.data }, { on := 7, ground := Ground.chain }], guard := none }) (v := ?v13x21) rfl (by kernel_rfl) (by kernel_rfl) (by kernel_rfl) (fun _ _ _ h => h) (Or.inl ⟨by rfl, ?y13x21⟩) hn ?r13x21
          case y13x21 => (intro wS hS; (try go_simp); (try with_reducible rfl))
          try simp only [Act.put, List.setIfInBounds_toArray, List.set_cons_zero, List.set_cons_succ]
          refine wpAnyH_take (i := 10) (oi := { dst := some 67, op := Op.fieldAddr 123 (Operand.tmp 3) 0, type := 0, pos := "instr.go:64", after := #[{ on := 9, ground := Ground.guard }], guard := some (9, true) }) (v := undef) rfl (by kernel_rfl) (by kernel_rfl) (by kernel_rfl) (fun _ _ _ h => h) (Or.inr ⟨by rfl, rfl⟩) hn ?_
          try simp only [Act.put, List.setIfInBounds_toArray, List.set_cons_zero, List.set_cons_succ]
          refine wpAnyH_take (i := 11) (oi := { dst := some 68, op := Op.load 3 (Operand.tmp 67), type := 3, pos := "instr.go:64", after := #[{ on := 10, ground := Ground.data }, { on := 9, ground := Ground.guard }], guard := some (9, true) }) (v := undef) rfl (by kernel_rfl) (by kernel_rfl) (by kernel_rfl) (fun _ _ _ h => h) (Or.inr ⟨by rfl, rfl⟩) hn ?_
          try simp only [Act.put, List.setIfInBounds_toArray, List.set_cons_zero, List.set_cons_succ]
          refine wpAnyH_take (i := 12) (oi := { dst := some 69, op := Op.binOp BinOp.neq 3 (Operand.tmp 68) (Operand.const (Value.int IntKind.i64 14)) 3, type := 4, pos := "instr.go:64", after := #[{ on := 11, ground := Ground.data }, { on := 9, ground := Ground.guard }], guard := some (9, true) }) (v := undef) rfl (by kernel_rfl) (by kernel_rfl) (by kernel_rfl) (fun _ _ _ h => h) (Or.inr ⟨by rfl, rfl⟩) hn ?_
          try simp only [Act.put, List.setIfInBounds_toArray, List.set_cons_zero, List.set_cons_succ]
          refine wpAnyH_take (i := 13) (oi := { dst := some 70, op := Op.move (Operand.tmp 69), type := 4, pos := "instr.go:64", after := #[{ on := 12, ground := Ground.data }, { on := 9, ground := Ground.chain }, { on := 9, ground := Ground.guard }], guard := some (9, true) }) (v := undef) rfl (by kernel_rfl) (by kernel_rfl) (by kernel_rfl) (fun _ _ _ h => h) (Or.inr ⟨by rfl, rfl⟩) hn ?_
          try simp only [Act.put, List.setIfInBounds_toArray, List.set_cons_zero, List.set_cons_succ]
          refine wpAnyH_take (i := 14) (oi := { dst := some 71, op := Op.fieldAddr 93 (Operand.tmp 1) 6, type := 0, pos := "instr.go:64", after := #[{ on := 13, ground := Ground.guard }], guard := some (13, false) }) (v := undef) rfl (by kernel_rfl) (by kernel_rfl) (by kernel_rfl) (fun _ _ _ h => h) (Or.inr ⟨by rfl, rfl⟩) hn ?_
          try simp only [Act.put, List.setIfInBounds_toArray, List.set_cons_zero, List.set_cons_succ]
          refine wpAnyH_take (i := 15) (oi := { dst := some 72, op := Op.load 9 (Operand.tmp 71), type := 9, pos := "instr.go:64", after := #[{ on := 14, ground := Ground.data }, { on := 13, ground := Ground.guard }], guard := some (13, false) }) (v := undef) rfl (by kernel_rfl) (by kernel_rfl) (by kernel_rfl) (fun _ _ _ h => h) (Or.inr ⟨by rfl, rfl⟩) hn ?_
          try simp only [Act.put, List.setIfInBounds_toArray, List.set_cons_zero, List.set_cons_succ]
          refine wpAnyH_take (i := 16) (oi := { dst := some 73, op := Op.call { callee := Callee.value (Operand.func 55), args := #[Operand.tmp 72], argTypes := #[9] }, type := 4, pos := "instr.go:64", after := #[{ on := 15, ground := Ground.data }, { on := 13, ground := Ground.chain }, { on := 13, ground := Ground.guard }], guard := some (13, false) }) (v := undef) rfl (by kernel_rfl) (by kernel_rfl) (by kernel_rfl) (fun _ _ _ h => h) (Or.inr ⟨by rfl, rfl⟩) hn ?_
          try simp only [Act.put, List.setIfInBounds_toArray, List.set_cons_zero, List.set_cons_succ]
          refine wpAnyH_take (i := 17) (oi := { dst := some 74, op := Op.pick (Operand.tmp 70) (Operand.const (Value.bool true)) (Operand.tmp 73), type := 4, pos := "instr.go:64", after := #[{ on := 13, ground := Ground.data }, { on := 16, ground := Ground.data }, { on := 9, ground := Ground.guard }], guard := some (9, true) }) (v := undef) rfl (by kernel_rfl) (by kernel_rfl) (by kernel_rfl) (fun _ _ _ h => h) (Or.inr ⟨by rfl, rfl⟩) hn ?_
          try simp only [Act.put, List.setIfInBounds_toArray, List.set_cons_zero, List.set_cons_succ]
          refine wpAnyH_take (i := 18) (oi := { dst := some 75, op := Op.pick (Operand.tmp 66) (Operand.tmp 74) (Operand.const (Value.bool false)), type := 4, pos := "instr.go:64", after := #[{ on := 9, ground := Ground.data }, { on := 17, ground := Ground.data }], guard := none }) (v := ?v13x30) rfl (by kernel_rfl) (by kernel_rfl) (by kernel_rfl) (fun _ _ _ h => h) (Or.inl ⟨by rfl, ?y13x30⟩) hn ?r13x30
          case y13x30 => (intro wS hS; (try go_simp); (try with_reducible rfl))
          try simp only [Act.put, List.setIfInBounds_toArray, List.set_cons_zero, List.set_cons_succ]
          refine wpAnyH_take (i := 19) (oi := { dst := some 4, op := Op.assign (Operand.tmp 75), type := 4, pos := "instr.go:64", after := #[{ on := 18, ground := Ground.data }, { on := 16, ground := Ground.chain }, { on := 0, ground := Ground.phase }, { on := 1, ground := Ground.phase }, { on := 2, ground := Ground.phase }, { on := 3, ground := Ground.phase }, { on := 4, ground := Ground.phase }, { on := 5, ground := Ground.phase }, { on := 6, ground := Ground.phase }, { on := 7, ground := Ground.phase }, { on := 8, ground := Ground.phase }, { on := 9, ground := Ground.phase }, { on := 10, ground := Ground.phase }, { on := 11, ground := Ground.phase }, { on := 12, ground := Ground.phase }, { on := 13, ground := Ground.phase }, { on := 14, ground := Ground.phase }, { on := 15, ground := Ground.phase }, { on := 16, ground := Ground.phase }, { on := 17, ground := Ground.phase }, { on := 18, ground := Ground.phase }], guard := none }) (v := ?v13x31) rfl (by kernel_rfl) (by kernel_rfl) (by kernel_rfl) (fun _ _ _ h => h) (Or.inl ⟨by rfl, ?y13x31⟩) hn ?r13x31
          case y13x31 => (intro wS hS; (try go_simp); (try with_reducible rfl))
          try simp only [Act.put, List.setIfInBounds_toArray, List.set_cons_zero, List.set_cons_succ]
          refine wpAnyH_take (i := 20) (oi := { dst := some 76, op := Op.fieldAddr 93 (Operand.tmp 1) 6, type := 0, pos := "instr.go:64", after := #[{ on := 0, ground := Ground.phase }, { on := 1, ground := Ground.phase }, { on := 2, ground := Ground.phase }, { on := 3, ground := Ground.phase }, { on := 4, ground := Ground.phase }, { on := 5, ground := Ground.phase }, { on := 6, ground := Ground.phase }, { on := 7, ground := Ground.phase }, { on := 8, ground := Ground.phase }, { on := 9, ground := Ground.phase }, { on := 10, ground := Ground.phase }, { on := 11, ground := Ground.phase }, { on := 12, ground := Ground.phase }, { on := 13, ground := Ground.phase }, { on := 14, ground := Ground.phase }, { on := 15, ground := Ground.phase }, { on := 16, ground := Ground.phase }, { on := 17, ground := Ground.phase }, { on := 18, ground := Ground.phase }, { on := 19, ground := Ground.phase }], guard := none }) (v := ?v13x32) rfl (by kernel_rfl) (by kernel_rfl) (by kernel_rfl) (fun _ _ _ h => h) (Or.inl ⟨by rfl, ?y13x32⟩) hn ?r13x32
          case y13x32 => (intro wS hS; (try go_simp); (try with_reducible rfl))
          try simp only [Act.put, List.setIfInBounds_toArray, List.set_cons_zero, List.set_cons_succ]
          refine wpAnyH_ready (rs := [21]) (by kernel_rfl) (by simp) ?_
          refine AllReadyH.cons (o := { dst := none, op := Op.store 9 (Operand.tmp 76) (Operand.const (Value.string { data := #[] })), type := 0, pos := "instr.go:64", after := #[{ on := 20, ground := Ground.data }, { on := 19, ground := Ground.chain }, { on := 0, ground := Ground.phase }, { on := 1, ground := Ground.phase }, { on := 2, ground := Ground.phase }, { on := 3, ground := Ground.phase }, { on := 4, ground := Ground.phase }, { on := 5, ground := Ground.phase }, { on := 6, ground := Ground.phase }, { on := 7, ground := Ground.phase }, { on := 8, ground := Ground.phase }, { on := 9, ground := Ground.phase }, { on := 10, ground := Ground.phase }, { on := 11, ground := Ground.phase }, { on := 12, ground := Ground.phase }, { on := 13, ground := Ground.phase }, { on := 14, ground := Ground.phase }, { on := 15, ground := Ground.phase }, { on := 16, ground := Ground.phase }, { on := 17, ground := Ground.phase }, { on := 18, ground := Ground.phase }, { on := 19, ground := Ground.phase }], guard := none }) rfl (fun K hK => ?_) AllReadyH.nil
          have z9 := cellAt hbx 9 (v := .string raw) rfl
          have f9 := frozenAt hbx 9
          go_simp
          have hbx := hp_set hbx 9 (.string ⟨#[]⟩)
          have hn : (fun w' => New w w' ∧ w'.heap[wa.heap.size]? = some (.cells #[.int .i64 14, .int .i64 ln] 123)) (wr.setCell ⟨w.heap.size, 9, none⟩ (.string ⟨#[]⟩)) := ⟨setNew hn.1 9 _, hp_other hn.2 HNE.out⟩
          refine hK.out _ _ (by first | exact hn | exact Upd.alloc hn _) (fun hn => ?_)
          clear hK K
          try simp only [Act.put, List.setIfInBounds_toArray, List.set_cons_zero, List.set_cons_succ]
          refine wpAnyH_done (by kernel_rfl) ?_ _
          refine NoPanic.normal ?_
          go_wp2_with fail
          go_meet
          exact ⟨_, (.slice al li.length cl), (.slice au (lb ty).length cu), rfl, (by have h := has_ne HBH.out; simp [ownQ, h]), hbx, hn.1, HL.out.new hn.1, HU.out.new hn.1⟩
      · -- 15
        have y1 : wb.cell? ⟨wa.heap.size, 1, none⟩ = some (.int .i64 ln) := cellAt HI.out 1 rfl
        have z10 : wb.cell? ⟨w.heap.size, 10, none⟩ = some (.int .u8 lane) := cellAt HB.out 10 rfl
        have f10 : wb.frozen? ⟨w.heap.size, 10, none⟩ = false := frozenAt HB.out 10
        go_wp2_with fail
        go_meet
        have hn := (setNew HN.out 10 (.int .u8 0))
        exact ⟨_, (.slice al li.length cl), (.slice au (lb ty).length cu), rfl, (by simp [ownQ]), (hp_set HB.out 10 (.int .u8 0)), hn, (HL.out.new hn), (HU.out.new hn)⟩
      · -- 16
        have y1 : wb.cell? ⟨wa.heap.size, 1, none⟩ = some (.int .i64 ln) := cellAt HI.out 1 rfl
        have z5 : wb.cell? ⟨w.heap.size, 5, none⟩ = some (.int .u32 x) := cellAt HB.out 5 rfl
        have z6 : wb.cell? ⟨w.heap.size, 6, none⟩ = some (.int .u32 y) := cellAt HB.out 6 rfl
        have z10 : wb.cell? ⟨w.heap.size, 10, none⟩ = some (.int .u8 lane) := cellAt HB.out 10 rfl
        have f5 : wb.frozen? ⟨w.heap.size, 5, none⟩ = false := frozenAt HB.out 5
        have f6 : wb.frozen? ⟨w.heap.size, 6, none⟩ = false := frozenAt HB.out 6
        have f10 : wb.frozen? ⟨w.heap.size, 10, none⟩ = false := frozenAt HB.out 10
        go_wp2_with fail
        go_meet
        have hn := (setNew (setNew (setNew HN.out 5 (.int .u32 0)) 6 (.int .u32 0)) 10 (.int .u8 0))
        exact ⟨_, (.slice al li.length cl), (.slice au (lb ty).length cu), rfl, (by simp [ownQ]), (hp_set (hp_set (hp_set HB.out 5 (.int .u32 0)) 6 (.int .u32 0)) 10 (.int .u8 0)), hn, (HL.out.new hn), (HU.out.new hn)⟩
      · -- 17
        by_cases h17 : (lb ty).length = 1
        · obtain ⟨x0, hx0⟩ := len_pos_at h17
          have b17 : (((lb ty).length : Int) == 1) = true := by rw [h17]; rfl
          obtain ⟨a3, c3, e, _, _, hcell⟩ := HU.out.new HN.out
          cases e
          obtain ⟨bb, oo, rfl, hce⟩ := hcell (by rw [hx0]; simp)
          have hc0 : wb.cell? ⟨bb, oo, none⟩ = some (.int .u8 x0.toNat) := by
            have := hce 0 (by omega)
            simpa [hx0, cb] using this
          have HX := hid hx0
          have hl1 : 0 < (lb ty).length := by omega
          clear hx0 hce hcell h17
          have z11 : wb.cell? ⟨w.heap.size, 11, none⟩ = some (.slice (some ⟨bb, oo, none⟩) (lb ty).length cu) := cellAt HB.out 11 rfl
          go_wp2_with fail
          refine (HVR.out _ _).mono ?_
          rintro e wd ⟨rfl, rfl⟩
          have f11 : wb.frozen? ⟨w.heap.size, 11, none⟩ = false := frozenAt HB.out 11
          go_wp2_with fail
          go_meet
          have hn := (setNew HN.out 11 (.slice none 0 0))
          exact ⟨_, (.slice al li.length cl), (.slice none 0 0), rfl, (by simp [ownQ, HX.out, ref1]), (hp_set HB.out 11 (.slice none 0 0)), hn, (HL.out.new hn), (Rd.nil _)⟩
        · have b17 : (((lb ty).length : Int) == 1) = false := by rw [beq_eq_false_iff_ne]; omega
          have HX := hid h17
          clear h17
          have z11 : wb.cell? ⟨w.heap.size, 11, none⟩ = some (.slice au (lb ty).length cu) := cellAt HB.out 11 rfl
          have f11 : wb.frozen? ⟨w.heap.size, 11, none⟩ = false := frozenAt HB.out 11
          go_wp2_with fail
          go_meet
          have hn := (setNew HN.out 11 (.slice none 0 0))
          exact ⟨_, (.slice al li.length cl), (.slice none 0 0), rfl, (by simp [ownQ, ref1_not HX.out]), (hp_set HB.out 11 (.slice none 0 0)), hn, (HL.out.new hn), (Rd.nil _)⟩
      · -- 18
        have z11 : wb.cell? ⟨w.heap.size, 11, none⟩ = some (.slice au (lb ty).length cu) := cellAt HB.out 11 rfl
        have f11 : wb.frozen? ⟨w.heap.size, 11, none⟩ = false := frozenAt HB.out 11
        go_wp2_with fail
        refine (HFR.out _ HN.out).mono ?_
        rintro e wd ⟨rfl, hnd⟩
        have HD := hid (New.trans HN.out hnd)
        have HB2 := hid (hp1 HB.out hnd)
        clear z11 f11
        have z11 : wd.cell? ⟨w.heap.size, 11, none⟩ = some (.slice au (lb ty).length cu) := cellAt HB2.out 11 rfl
        have f11 : wd.frozen? ⟨w.heap.size, 11, none⟩ = false := frozenAt HB2.out 11
        go_wp2_with fail
        go_meet
        have hn := (setNew HD.out 11 (.slice none 0 0))
        exact ⟨_, (.slice al li.length cl), (.slice none 0 0), rfl, (by simp [ownQ, valsV]), (hp_set HB2.out 11 (.slice none 0 0)), hn, (HL.out.new hn), (Rd.nil _)⟩
      · obtain ⟨h1, h2, h3, h4, h5, h8, h9, h10, h11, h12, h13, h14, h15, h16, h17, h18⟩ := ho
        have HO : Hid (ownQ s ln ⟨p, c, k, t, i, x, y, li, n, raw, lane, ty⟩) := own_plain ⟨h1, h2, h3, h4, h5, h8, h9, h10, h11, h12, h13, h14, h15, h16, h17, h18⟩
        have e1 : (s == 1) = false := beq_eq_false_iff_ne.mpr h1
        have e2 : (s == 2) = false := beq_eq_false_iff_ne.mpr h2
        have e3 : (s == 3) = false := beq_eq_false_iff_ne.mpr h3
        have e4 : (s == 4) = false := beq_eq_false_iff_ne.mpr h4
        have e5 : (s == 5) = false := beq_eq_false_iff_ne.mpr h5
        have e8 : (s == 8) = false := beq_eq_false_iff_ne.mpr h8
        have e9 : (s == 9) = false := beq_eq_false_iff_ne.mpr h9
        have e10 : (s == 10) = false := beq_eq_false_iff_ne.mpr h10
        have e11 : (s == 11) = false := beq_eq_false_iff_ne.mpr h11
        have e12 : (s == 12) = false := beq_eq_false_iff_ne.mpr h12
        have e13 : (s == 13) = false := beq_eq_false_iff_ne.mpr h13
        have e14 : (s == 14) = false := beq_eq_false_iff_ne.mpr h14
        have e15 : (s == 15) = false := beq_eq_false_iff_ne.mpr h15
        have e16 : (s == 16) = false := beq_eq_false_iff_ne.mpr h16
        have e17 : (s == 17) = false := beq_eq_false_iff_ne.mpr h17
        have e18 : (s == 18) = false := beq_eq_false_iff_ne.mpr h18
        have HZ := hid hz
        have HS := hid hs
        clear h1 h2 h3 h4 h5 h8 h9 h10 h11 h12 h13 h14 h15 h16 h17 h18 hz hs
        go_wp2_with fail
        go_meet
        rw [HZ.out]
        exact ⟨_, _, _, rfl, (by simp [HO.out, HS.out]), HB.out, HN.out, HL.out.new HN.out, HU.out.new HN.out⟩
    · have hz : zap s ⟨p, c, k, t, i, x, y, li, n, raw, lane, ty⟩ = ⟨p, c, k, t, i, x, y, li, n, raw, lane, ty⟩ := by
        rcases shapes s with h | h | h | h | h | h | h | h | h | h | h | h | h | h | h | h | ⟨h, _⟩
        all_goals first | omega | exact h _
      have HZ := hid hz
      have HS := hid hs
      clear hz hs
      go_wp2_with fail
      go_meet
      rw [HZ.out]
      exact ⟨_, _, _, rfl, ⟨(fun h => by cases h), (fun h => absurd h.1 (Int.not_le.mpr HS.out))⟩, HB.out, HN.out, HL.out.new HN.out, HU.out.new HN.out⟩
  case rest =>
    obtain ⟨b, l', u', rfl, hbq, hbox, hn, hrl, hru⟩ := hcut
    have hs1 : (zap s ⟨p, c, k, t, i, x, y, li, n, raw, lane, ty⟩).li.length ≤ 1000000 := by
      show (if s = 4 then [] else li).length ≤ _
      split
      · simp
      · exact s1
    have hs3 : (zap s ⟨p, c, k, t, i, x, y, li, n, raw, lane, ty⟩).ty.size ≤ 1000000 := by
      show (if s = 17 ∨ s = 18 then (⟨#[]⟩ : ByteArray) else ty).size ≤ _
      split
      · show (0 : Nat) ≤ _
        omega
      · exact s3
    have hp1 : (zap s ⟨p, c, k, t, i, x, y, li, n, raw, lane, ty⟩).p = p := rfl
    have hp2 : (zap s ⟨p, c, k, t, i, x, y, li, n, raw, lane, ty⟩).c = c := rfl
    generalize zap s ⟨p, c, k, t, i, x, y, li, n, raw, lane, ty⟩ = m' at *
    have HSM := hid (pSame_any m' (zeroI p c) l' (.slice none 0 0) u' (.slice none 0 0) wc hrl (RdM.nil _ _) hru (Rd.nil _) hs1 (by simp [zeroI]) hs3 (by show (0 : Nat) ≤ _; omega))
    obtain ⟨p', c', k', t', i', x', y', li', n', raw', lane', ty'⟩ := m'
    simp only at hp1 hp2
    subst hp1 hp2
    unfold pI zeroI at HSM
    simp only at HSM
    have HBX := hid hbox
    have HBQ := hid hbq
    have HNC := hid hn
    obtain ⟨al', cl', rfl⟩ := hrl.shape
    obtain ⟨au', cu', rfl⟩ := hru.shape
    clear hbox hbq hn hrl hru hs1 hs3 HB HN HI HL HU
    cases b with
    | false =>
      go_wp2_with fail
      go_ret
      refine ⟨false, rfl, ⟨(fun h => by cases h), (fun h => ?_)⟩, HNC.out⟩
      rw [hQ2.out] at h
      exact HBQ.out.mpr ⟨h.1, h.2.1⟩
    | true =>
      have z0 : wc.cell? ⟨w.heap.size, 0, none⟩ = some (.int .u8 p') := cellAt HBX.out 0 rfl
      have z1 : wc.cell? ⟨w.heap.size, 1, none⟩ = some (.int .u32 c') := cellAt HBX.out 1 rfl
      have z2 : wc.cell? ⟨w.heap.size, 2, none⟩ = some (.int .i64 k') := cellAt HBX.out 2 rfl
      have z3 : wc.cell? ⟨w.heap.size, 3, none⟩ = some (.int .u8 t') := cellAt HBX.out 3 rfl
      have z4 : wc.cell? ⟨w.heap.size, 4, none⟩ = some (.int .u32 i') := cellAt HBX.out 4 rfl
      have z5 : wc.cell? ⟨w.heap.size, 5, none⟩ = some (.int .u32 x') := cellAt HBX.out 5 rfl
      have z6 : wc.cell? ⟨w.heap.size, 6, none⟩ = some (.int .u32 y') := cellAt HBX.out 6 rfl
      have z7 : wc.cell? ⟨w.heap.size, 7, none⟩ = some (.slice al' li'.length cl') := cellAt HBX.out 7 rfl
      have z8 : wc.cell? ⟨w.heap.size, 8, none⟩ = some (.int .i64 n') := cellAt HBX.out 8 rfl
      have z9 : wc.cell? ⟨w.heap.size, 9, none⟩ = some (.string raw') := cellAt HBX.out 9 rfl
      have z10 : wc.cell? ⟨w.heap.size, 10, none⟩ = some (.int .u8 lane') := cellAt HBX.out 10 rfl
      have z11 : wc.cell? ⟨w.heap.size, 11, none⟩ = some (.slice au' (lb ty').length cu') := cellAt HBX.out 11 rfl
      go_wp2_with fail
      refine HSM.out.mono ?_
      rintro e wd ⟨b2, rfl, hb2, hnd⟩
      have HB2 := hid hb2
      have HND := hid (New.trans HNC.out hnd)
      clear hb2 hnd
      clear z0 z1 z2 z3 z4 z5 z6 z7 z8 z9 z10 z11
      go_wp2_with fail
      go_ret
      refine ⟨b2, rfl, ?_, HND.out⟩
      rw [hQ2.out, HB2.out]
      have := HBQ.out.mp (by first | rfl | trivial)
      exact ⟨fun h => ⟨this.1, this.2, h⟩, fun h => h.2.2⟩
end Go.Proofs.YtbllpajibhiobaaDoor
