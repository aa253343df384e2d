/-
  Whether an instruction may be: the program's Right.
-/
import Derived.Test.YtnngibflnnmioaaIns
import Derived.Test.YtnngibflnnmioaaOpI
import Derived.Test.YtnngibflnnmioaaSpnP
namespace Go.Proofs.Ytnngibflnnmioaa
open Go.RowKit Go.Proofs.Leb Go.Proofs.Own
set_option maxRecDepth 100000
set_option maxHeartbeats 8000000

/-- an instruction without what its op has -/
def zap (s : Int) (m : Ins) : Ins where
  p := m.p
  c := m.c
  k := if s = 1 then 0 else m.k
  t := if s = 1 then 0 else m.t
  i := if s = 1 then 0 else m.i
  x := if s = 2 ∨ s = 3 ∨ s = 4 ∨ s = 5 ∨ s = 8 ∨ s = 16 then 0 else m.x
  y := if s = 3 ∨ s = 5 ∨ s = 16 then 0 else m.y
  li := if s = 4 then [] else m.li
  n := if s = 9 ∨ s = 10 then 0 else m.n
  raw := if s = 11 ∨ s = 12 ∨ s = 13 ∨ s = 14 then ⟨#[]⟩ else m.raw
  lane := if s = 15 ∨ s = 16 then 0 else m.lane
  ty := if s = 17 ∨ s = 18 then ⟨#[]⟩ else m.ty
def zeroI (p c : Int) : Ins := ⟨p, c, 0, 0, 0, 0, 0, [], 0, ⟨#[]⟩, 0, ⟨#[]⟩⟩
def ref1 (l : List UInt8) : Bool := match l with | [x] => refV x.toNat | _ => false
def small (l : List UInt8) : Bool := l.all fun x => decide ((x.toNat : Int) < 32)
/-- what is asked of what its op has -/
def ownQ (s ln : Int) (m : Ins) : Prop :=
  (s = 1 → btV m.k m.t m.i = true) ∧ (s = 9 → -2147483648 ≤ m.n ∧ m.n ≤ 2147483647) ∧ (s = 11 → m.raw.size = 4) ∧ (s = 12 → m.raw.size = 8) ∧ (s = 13 ∨ s = 14 → m.raw.size = 16) ∧
  (s = 14 → small (lb m.raw) = true) ∧ (s = 15 ∨ s = 16 → m.lane < ln) ∧ (s = 17 → ref1 (lb m.ty) = true) ∧ (s = 18 → valsV (lb m.ty) = true)
def RightQ (m : Ins) : Prop := 0 ≤ (shapeV m.p m.c).1 ∧ ownQ (shapeV m.p m.c).1 (shapeV m.p m.c).2 m ∧ zap (shapeV m.p m.c).1 m = zeroI m.p m.c

/-- the instruction's block -/
def cells (m : Ins) (l u : Value) : Array Value := #[.int .u8 m.p, .int .u32 m.c, .int .i64 m.k, .int .u8 m.t, .int .u32 m.i, .int .u32 m.x, .int .u32 m.y, l, .int .i64 m.n, .string m.raw, .int .u8 m.lane, u]
def Box (w : World) (g : Nat) (m : Ins) (l u : Value) : Prop := w.heap[g]? = some (.cells (cells m l u) 34)
theorem hp_set {w : World} {g : Nat} {cs : Array Value} {t : TypeId} (h : w.heap[g]? = some (.cells cs t)) (i : Nat) (v : Value) : (w.setCell ⟨g, i, none⟩ v).heap[g]? = some (.cells (cs.setIfInBounds i v) t) := by
  show (w.heap.modify g _)[g]? = _
  rw [Array.getElem?_modify, if_pos rfl, h]
  rfl

theorem hp_other {w : World} {g k i : Nat} {o : Obj} {v : Value} (h : w.heap[k]? = some o) (hne : g ≠ k) : (w.setCell ⟨g, i, none⟩ v).heap[k]? = some o := by
  show (w.heap.modify g _)[k]? = _
  rw [Array.getElem?_modify, if_neg hne]
  exact h
theorem has_eq {k : Int} {n : Nat} (h : Span.has k k n = true) (hk : k < 1099511627776 := by decide) : (n : Int) = k := by
  unfold Span.has at h
  simp at h
  omega
theorem has_ne {k n : Nat} (h : Span.has k k n = false) : ¬ n = k := by
  intro e
  subst e
  unfold Span.has at h
  simp at h
theorem setNew {w wb : World} (h : New w wb) (i : Nat) (v : Value) : New w (wb.setCell ⟨w.heap.size, i, none⟩ v) := Upd.setCell h (.inl (Nat.le_refl _)) v
theorem frozenAt {w : World} {g : Nat} {cs : Array Value} {t : TypeId} (h : w.heap[g]? = some (.cells cs t)) (i : Nat) : w.frozen? ⟨g, i, none⟩ = false := by simp [World.frozen?, h]
theorem len_pos_at {bs : List UInt8} (h : bs.length = 1) : ∃ x, bs = [x] := List.length_eq_one_iff.mp h
theorem own_plain {s ln : Int} {m : Ins} (h : s ≠ 1 ∧ s ≠ 2 ∧ s ≠ 3 ∧ s ≠ 4 ∧ s ≠ 5 ∧ s ≠ 8 ∧ s ≠ 9 ∧ s ≠ 10 ∧ s ≠ 11 ∧ s ≠ 12 ∧ s ≠ 13 ∧ s ≠ 14 ∧ s ≠ 15 ∧ s ≠ 16 ∧ s ≠ 17 ∧ s ≠ 18) : ownQ s ln m := by
  obtain ⟨h1, h2, h3, h4, h5, h8, h9, h10, h11, h12, h13, h14, h15, h16, h17, h18⟩ := h
  unfold ownQ
  simp [h1, h9, h11, h12, h13, h14, h15, h16, h17, h18]
theorem wrap32 (n : Int) : (n = wrap64 (RowKit.wrap32 n)) ↔ (-2147483648 ≤ n ∧ n ≤ 2147483647) := by
  unfold wrap64 RowKit.wrap32
  constructor
  · intro h; omega
  · intro h; omega
theorem ref1_not {l : List UInt8} (h : ¬ l.length = 1) : ref1 l = false := by
  unfold ref1
  match l, h with
  | [], _ => rfl
  | [x], h => exact absurd rfl h
  | x :: y :: r, _ => rfl
theorem shapes (s : Int) : s = 1 ∨ s = 2 ∨ s = 3 ∨ s = 4 ∨ s = 5 ∨ s = 8 ∨ s = 9 ∨ s = 10 ∨ s = 11 ∨ s = 12 ∨ s = 13 ∨ s = 14 ∨ s = 15 ∨ s = 16 ∨ s = 17 ∨ s = 18 ∨
    ((∀ m, zap s m = m) ∧ (s ≠ 1 ∧ s ≠ 2 ∧ s ≠ 3 ∧ s ≠ 4 ∧ s ≠ 5 ∧ s ≠ 8 ∧ s ≠ 9 ∧ s ≠ 10 ∧ s ≠ 11 ∧ s ≠ 12 ∧ s ≠ 13 ∧ s ≠ 14 ∧ s ≠ 15 ∧ s ≠ 16 ∧ s ≠ 17 ∧ s ≠ 18)) := by
  by_cases h : s = 1 ∨ s = 2 ∨ s = 3 ∨ s = 4 ∨ s = 5 ∨ s = 8 ∨ s = 9 ∨ s = 10 ∨ s = 11 ∨ s = 12 ∨ s = 13 ∨ s = 14 ∨ s = 15 ∨ s = 16 ∨ s = 17 ∨ s = 18
  · omega
  · simp only [not_or] at h
    obtain ⟨h1, h2, h3, h4, h5, h8, h9, h10, h11, h12, h13, h14, h15, h16, h17, h18⟩ := h
    have hz : ∀ m, zap s m = m := fun m => by
      unfold zap
      simp [h1, h2, h3, h4, h5, h8, h9, h10, h11, h12, h13, h14, h15, h16, h17, h18]
    simp [h1, h2, h3, h4, h5, h8, h9, h10, h11, h12, h13, h14, h15, h16, h17, h18, hz]
theorem pRight_any (m : Ins) (l u : Value) (w : World) (c0 : 0 ≤ m.c) (c1 : m.c < 4294967296) (h1 : RdM .u32 w l m.li) (h3 : Rd w u (lb m.ty)) (s1 : m.li.length ≤ 1000000) (s3 : m.ty.size ≤ 1000000) (s2 : m.raw.size ≤ 1000000)
    (n1 : -9223372036854775808 ≤ m.n) (n2 : m.n ≤ 9223372036854775807) (l0 : 0 ≤ m.lane) (l1 : m.lane < 256) :
    Calls Try.prog 8 #[pI m l u] w (SameP (RightQ m) w) := by
  have HF := hid (fun w => Find_any m.p m.c w c0 c1)
  have HLN : Hid (wrap64 m.lane = m.lane) := by show wrap64 m.lane = m.lane; unfold wrap64; omega
  have HBT := hid (fun w => btRight_any m.k m.t m.i w)
  have HSP := hid (fun s l w => infoSpan_any s l w)
  have HHA := hid (fun mn mx n w => has_any mn mx n w)
  have HSH := hid (fun w => shuffles_any m.raw w (by omega))
  have HVR := hid (fun v w => vref_any v w)
  have HFR := hid (fun w' (hn : New w w') => funcRight_any u (.slice none 0 0) (lb m.ty) [] w' (h3.new hn) (by rw [lb_len]; omega) (Rd.nil _) (by decide))
  have hag := find_shape m.p m.c c0
  obtain ⟨q, hq⟩ : ∃ q, RightQ m = q := ⟨_, rfl⟩
  have HQ := hid hq
  rw [hq]
  clear hq
  have hQ2 : Hid (q = (0 ≤ (shapeV m.p m.c).1 ∧ ownQ (shapeV m.p m.c).1 (shapeV m.p m.c).2 m ∧ zap (shapeV m.p m.c).1 m = zeroI m.p m.c)) := HQ.out.symm
  clear HQ
  generalize findV m.p m.c = f at *
  generalize shapeV m.p m.c = r at *
  obtain ⟨f1, f2, f3⟩ := f
  obtain ⟨s, ln⟩ := r
  simp only at *
  obtain ⟨a1, a2⟩ := hag
  simp only at a1 a2
  have hcases : (f3 = true ∧ 0 ≤ s ∧ s = f1 ∧ ln = f2) ∨ (f3 = false ∧ s < 0 ∧ f1 = 0 ∧ f2 = 0) := by
    cases f3 with
    | true => exact .inl ⟨rfl, of_decide_eq_true a1.symm, (by rw [if_pos rfl] at a2; exact ⟨a2.1.symm, a2.2.symm⟩)⟩
    | false => exact .inr ⟨rfl, Int.not_le.mp (of_decide_eq_false a1.symm), (by rw [if_neg (by decide)] at a2; exact a2)⟩
  clear a1 a2
  obtain ⟨w0, hw0⟩ : ∃ w0, w.alloc (.cells (cells m l u) 34) = w0 := ⟨_, rfl⟩
  have HN0 : Hid (New w w0) := by show New _ _; rw [← hw0]; exact (Upd.refl _ _).alloc _
  have HB0 : Hid (Box w0 w.heap.size m l u) := by show Box _ _ _ _ _; rw [← hw0]; exact hp_new rfl
  unfold cells at hw0
  have HW := hid hw0
  clear hw0
  obtain ⟨p, c, k, t, i, x, y, li, n, raw, lane, ty⟩ := m
  obtain ⟨al, cl, rfl⟩ := h1.shape
  obtain ⟨au, cu, rfl⟩ := h3.shape
  have HL := hid h1
  have HU := hid h3
  clear h1 h3
  unfold pI
  simp only at *
  go_enter Try.func8, Try.ntmps8
  go_wp2_with fail
  rw [HW.out]
  refine (HF.out _).mono ?_
  rintro e wa ⟨rfl, hna⟩
  have hb := hp1 HB0.out hna
  have hnn := New.trans HN0.out hna
  obtain ⟨wb, hwb⟩ : ∃ wb, wa.alloc (.cells #[.int .i64 f1, .int .i64 f2] 66) = wb := ⟨_, rfl⟩
  have HB : Hid (Box wb w.heap.size ⟨p, c, k, t, i, x, y, li, n, raw, lane, ty⟩ (.slice al li.length cl) (.slice au (lb ty).length cu)) := by
    show _ = _
    rw [← hwb]; exact hp_old (Array.getElem?_eq_some_iff.1 hb).1 hb
  have HN : Hid (New w wb) := by show New _ _; rw [← hwb]; exact hnn.alloc _
  have HI : Hid (wb.heap[wa.heap.size]? = some (.cells #[.int .i64 f1, .int .i64 f2] 66)) := by show _ = _; rw [← hwb]; exact hp_new rfl
  have y0 : wb.cell? ⟨wa.heap.size, 0, none⟩ = some (.int .i64 f1) := cellAt HI.out 0 rfl
  have HNE : Hid (w.heap.size ≠ wa.heap.size) := by show _ ≠ _; have := (Array.getElem?_eq_some_iff.1 hb).1; omega
  clear hb hnn hna HB0 HN0 HF HW
  go_upto_block 0 with fail
  clear hwb y0
  go_cut [4] (fun ok wx => ∃ b l' u', ok = .bool b ∧ (b = true ↔ 0 ≤ s ∧ ownQ s ln ⟨p, c, k, t, i, x, y, li, n, raw, lane, ty⟩) ∧ Box wx w.heap.size (zap s ⟨p, c, k, t, i, x, y, li, n, raw, lane, ty⟩) l' u' ∧ New w wx ∧ RdM .u32 wx l' (zap s ⟨p, c, k, t, i, x, y, li, n, raw, lane, ty⟩).li ∧ Rd wx u' (lb (zap s ⟨p, c, k, t, i, x, y, li, n, raw, lane, ty⟩).ty))
  case first =>
    clear hQ2
    rcases hcases with ⟨rfl, hs, rfl, rfl⟩ | ⟨rfl, hs, rfl, rfl⟩
    · have hk := shapes s
      rcases hk with rfl | rfl | rfl | rfl | rfl | rfl | rfl | rfl | rfl | rfl | rfl | rfl | rfl | rfl | rfl | rfl | ⟨hz, ho⟩
      · -- 1
        have z2 : wb.cell? ⟨w.heap.size, 2, none⟩ = some (.int .i64 k) := cellAt HB.out 2 rfl
        have z3 : wb.cell? ⟨w.heap.size, 3, none⟩ = some (.int .u8 t) := cellAt HB.out 3 rfl
        have z4 : wb.cell? ⟨w.heap.size, 4, none⟩ = some (.int .u32 i) := cellAt HB.out 4 rfl
        have f2 : wb.frozen? ⟨w.heap.size, 2, none⟩ = false := frozenAt HB.out 2
        have f3 : wb.frozen? ⟨w.heap.size, 3, none⟩ = false := frozenAt HB.out 3
        have f4 : wb.frozen? ⟨w.heap.size, 4, none⟩ = false := frozenAt HB.out 4
        go_wp2_with fail
        refine (HBT.out _).mono ?_
        rintro e wd ⟨rfl, hnd⟩
        have HD := hid (New.trans HN.out hnd)
        have HB2 := hid (hp1 HB.out hnd)
        clear z2 z3 z4 f2 f3 f4
        have z2 : wd.cell? ⟨w.heap.size, 2, none⟩ = some (.int .i64 k) := cellAt HB2.out 2 rfl
        have z3 : wd.cell? ⟨w.heap.size, 3, none⟩ = some (.int .u8 t) := cellAt HB2.out 3 rfl
        have z4 : wd.cell? ⟨w.heap.size, 4, none⟩ = some (.int .u32 i) := cellAt HB2.out 4 rfl
        have f2 : wd.frozen? ⟨w.heap.size, 2, none⟩ = false := frozenAt HB2.out 2
        have f3 : wd.frozen? ⟨w.heap.size, 3, none⟩ = false := frozenAt HB2.out 3
        have f4 : wd.frozen? ⟨w.heap.size, 4, none⟩ = false := frozenAt HB2.out 4
        go_wp2_with fail
        go_meet
        have hn := (setNew (setNew (setNew HD.out 2 (.int .i64 0)) 3 (.int .u8 0)) 4 (.int .u32 0))
        exact ⟨_, (.slice al li.length cl), (.slice au (lb ty).length cu), rfl, (by simp [ownQ]), (hp_set (hp_set (hp_set HB2.out 2 (.int .i64 0)) 3 (.int .u8 0)) 4 (.int .u32 0)), hn, (HL.out.new hn), (HU.out.new hn)⟩
      · -- 2
        have z5 : wb.cell? ⟨w.heap.size, 5, none⟩ = some (.int .u32 x) := cellAt HB.out 5 rfl
        have f5 : wb.frozen? ⟨w.heap.size, 5, none⟩ = false := frozenAt HB.out 5
        go_wp2_with fail
        go_meet
        have hn := (setNew HN.out 5 (.int .u32 0))
        exact ⟨_, (.slice al li.length cl), (.slice au (lb ty).length cu), rfl, (by simp [ownQ]), (hp_set HB.out 5 (.int .u32 0)), hn, (HL.out.new hn), (HU.out.new hn)⟩
      · -- 3
        have z5 : wb.cell? ⟨w.heap.size, 5, none⟩ = some (.int .u32 x) := cellAt HB.out 5 rfl
        have z6 : wb.cell? ⟨w.heap.size, 6, none⟩ = some (.int .u32 y) := cellAt HB.out 6 rfl
        have f5 : wb.frozen? ⟨w.heap.size, 5, none⟩ = false := frozenAt HB.out 5
        have f6 : wb.frozen? ⟨w.heap.size, 6, none⟩ = false := frozenAt HB.out 6
        go_wp2_with fail
        go_meet
        have hn := (setNew (setNew HN.out 5 (.int .u32 0)) 6 (.int .u32 0))
        exact ⟨_, (.slice al li.length cl), (.slice au (lb ty).length cu), rfl, (by simp [ownQ]), (hp_set (hp_set HB.out 5 (.int .u32 0)) 6 (.int .u32 0)), hn, (HL.out.new hn), (HU.out.new hn)⟩
      · -- 4
        have z7 : wb.cell? ⟨w.heap.size, 7, none⟩ = some (.slice al li.length cl) := cellAt HB.out 7 rfl
        have z5 : wb.cell? ⟨w.heap.size, 5, none⟩ = some (.int .u32 x) := cellAt HB.out 5 rfl
        have f7 : wb.frozen? ⟨w.heap.size, 7, none⟩ = false := frozenAt HB.out 7
        have f5 : wb.frozen? ⟨w.heap.size, 5, none⟩ = false := frozenAt HB.out 5
        go_wp2_with fail
        go_meet
        have hn := (setNew (setNew HN.out 7 (.slice none 0 0)) 5 (.int .u32 0))
        exact ⟨_, (.slice none 0 0), (.slice au (lb ty).length cu), rfl, (by simp [ownQ]), (hp_set (hp_set HB.out 7 (.slice none 0 0)) 5 (.int .u32 0)), hn, (RdM.nil _ _), (HU.out.new hn)⟩
      · -- 5
        have z5 : wb.cell? ⟨w.heap.size, 5, none⟩ = some (.int .u32 x) := cellAt HB.out 5 rfl
        have z6 : wb.cell? ⟨w.heap.size, 6, none⟩ = some (.int .u32 y) := cellAt HB.out 6 rfl
        have f5 : wb.frozen? ⟨w.heap.size, 5, none⟩ = false := frozenAt HB.out 5
        have f6 : wb.frozen? ⟨w.heap.size, 6, none⟩ = false := frozenAt HB.out 6
        go_wp2_with fail
        go_meet
        have hn := (setNew (setNew HN.out 5 (.int .u32 0)) 6 (.int .u32 0))
        exact ⟨_, (.slice al li.length cl), (.slice au (lb ty).length cu), rfl, (by simp [ownQ]), (hp_set (hp_set HB.out 5 (.int .u32 0)) 6 (.int .u32 0)), hn, (HL.out.new hn), (HU.out.new hn)⟩
      · -- 8
        have z5 : wb.cell? ⟨w.heap.size, 5, none⟩ = some (.int .u32 x) := cellAt HB.out 5 rfl
        have f5 : wb.frozen? ⟨w.heap.size, 5, none⟩ = false := frozenAt HB.out 5
        go_wp2_with fail
        go_meet
        have hn := (setNew HN.out 5 (.int .u32 0))
        exact ⟨_, (.slice al li.length cl), (.slice au (lb ty).length cu), rfl, (by simp [ownQ]), (hp_set HB.out 5 (.int .u32 0)), hn, (HL.out.new hn), (HU.out.new hn)⟩
      · -- 9
        by_cases hw : -2147483648 ≤ n ∧ n ≤ 2147483647
        · have hwr : (n == wrap64 (RowKit.wrap32 n)) = true := beq_iff_eq.mpr ((wrap32 n).mpr hw)
          have HWR := hid hw
          clear hw
          have z8 : wb.cell? ⟨w.heap.size, 8, none⟩ = some (.int .i64 n) := cellAt HB.out 8 rfl
          have f8 : wb.frozen? ⟨w.heap.size, 8, none⟩ = false := frozenAt HB.out 8
          go_wp2_with fail
          go_meet
          have hn := (setNew HN.out 8 (.int .i64 0))
          exact ⟨_, (.slice al li.length cl), (.slice au (lb ty).length cu), rfl, (by have := HWR.out; simp only [ownQ]; simp [this]), (hp_set HB.out 8 (.int .i64 0)), hn, (HL.out.new hn), (HU.out.new hn)⟩
        · have hwr : (n == wrap64 (RowKit.wrap32 n)) = false := beq_eq_false_iff_ne.mpr (fun h => hw ((wrap32 n).mp h))
          have HWR := hid hw
          clear hw
          have z8 : wb.cell? ⟨w.heap.size, 8, none⟩ = some (.int .i64 n) := cellAt HB.out 8 rfl
          have f8 : wb.frozen? ⟨w.heap.size, 8, none⟩ = false := frozenAt HB.out 8
          go_wp2_with fail
          go_meet
          have hn := (setNew HN.out 8 (.int .i64 0))
          exact ⟨_, (.slice al li.length cl), (.slice au (lb ty).length cu), rfl, (by have := HWR.out; simp only [ownQ]; simp [this]), (hp_set HB.out 8 (.int .i64 0)), hn, (HL.out.new hn), (HU.out.new hn)⟩
      · -- 10
        have z8 : wb.cell? ⟨w.heap.size, 8, none⟩ = some (.int .i64 n) := cellAt HB.out 8 rfl
        have f8 : wb.frozen? ⟨w.heap.size, 8, none⟩ = false := frozenAt HB.out 8
        go_wp2_with fail
        go_meet
        have hn := (setNew HN.out 8 (.int .i64 0))
        exact ⟨_, (.slice al li.length cl), (.slice au (lb ty).length cu), rfl, (by simp [ownQ]), (hp_set HB.out 8 (.int .i64 0)), hn, (HL.out.new hn), (HU.out.new hn)⟩
      · -- 11
        have HS2 := hid (fun l w => HSP.out 11 l w)
        rw [spanV_11] at HS2
        have HH2 := hid (fun w => HHA.out 4 4 raw.size w)
        obtain ⟨bh, hbh⟩ : ∃ bh, Span.has 4 4 raw.size = bh := ⟨_, rfl⟩
        rw [hbh] at HH2
        have y0 : wb.cell? ⟨wa.heap.size, 0, none⟩ = some (.int .i64 11) := cellAt HI.out 0 rfl
        have y1 : wb.cell? ⟨wa.heap.size, 1, none⟩ = some (.int .i64 ln) := cellAt HI.out 1 rfl
        have z9 : wb.cell? ⟨w.heap.size, 9, none⟩ = some (.string raw) := cellAt HB.out 9 rfl
        have f9 : wb.frozen? ⟨w.heap.size, 9, none⟩ = false := frozenAt HB.out 9
        have HBH := hid hbh
        clear hbh
        cases bh with
        | true =>
          have hn : (fun w' => New w w' ∧ w'.heap[wa.heap.size]? = some (.cells #[.int .i64 11, .int .i64 ln] 66)) wb.drew := ⟨HN.out.drew, HI.out⟩
          have hbx : Box wb.drew w.heap.size ⟨p, c, k, t, i, x, y, li, n, raw, lane, ty⟩ (.slice al li.length cl) (.slice au (lb ty).length cu) := HB.out
          clear y0 y1 z9 f9
          go_wp2_with fail
          refine wp_region_noPanic ?_
          refine wp_region_held_drew (S := (fun w' => New w w' ∧ w'.heap[wa.heap.size]? = some (.cells #[.int .i64 11, .int .i64 ln] 66))) (by kernel_rfl) (by first | exact hn | exact (Upd.refl _ _).drew | exact Upd.drew (by assumption)) (fun hn => ?_)
          generalize wb.drew = wd at *
          refine wpAnyH_take (i := 0) (oi := { dst := some 57, op := Op.move (Operand.tmp 4), type := 4, pos := "instr.go:64", after := #[], guard := none }) (v := ?v28x1) rfl (by kernel_rfl) (by kernel_rfl) (by kernel_rfl) (fun _ _ _ h => h) (Or.inl ⟨by rfl, ?y28x1⟩) hn ?r28x1
          case y28x1 => (intro wS hS; (try go_simp); (try with_reducible rfl))
          try simp only [Act.put, List.setIfInBounds_toArray, List.set_cons_zero, List.set_cons_succ]
          refine wpAnyH_take (i := 1) (oi := { dst := some 58, op := Op.move (Operand.tmp 57), type := 4, pos := "instr.go:64", after := #[{ on := 0, ground := Ground.data }], guard := none }) (v := ?v28x2) rfl (by kernel_rfl) (by kernel_rfl) (by kernel_rfl) (fun _ _ _ h => h) (Or.inl ⟨by rfl, ?y28x2⟩) hn ?r28x2
          case y28x2 => (intro wS hS; (try go_simp); (try with_reducible rfl))
          try simp only [Act.put, List.setIfInBounds_toArray, List.set_cons_zero, List.set_cons_succ]
          refine wpAnyH_take (i := 2) (oi := { dst := some 59, op := Op.load 66 (Operand.tmp 3), type := 66, pos := "instr.go:64", after := #[{ on := 1, ground := Ground.guard }], guard := some (1, true) }) (v := ?v28x3) rfl (by kernel_rfl) (by kernel_rfl) (by kernel_rfl) (fun _ _ _ h => h) (Or.inl ⟨by rfl, ?y28x3⟩) hn ?r28x3
          case y28x3 => (intro wS hS; have c0 := cellAt hS.2 0 rfl; have c1 := cellAt hS.2 1 rfl; (try go_simp); (try with_reducible rfl))
          try simp only [Act.put, List.setIfInBounds_toArray, List.set_cons_zero, List.set_cons_succ]
          refine wpAnyH_take (i := 4) (oi := { dst := some 61, op := Op.fieldAddr 34 (Operand.tmp 1) 6, type := 0, pos := "instr.go:64", after := #[{ on := 1, ground := Ground.guard }], guard := some (1, true) }) (v := ?v28x4) rfl (by kernel_rfl) (by kernel_rfl) (by kernel_rfl) (fun _ _ _ h => h) (Or.inl ⟨by rfl, ?y28x4⟩) hn ?r28x4
          case y28x4 => (intro wS hS; (try go_simp); (try with_reducible rfl))
          try simp only [Act.put, List.setIfInBounds_toArray, List.set_cons_zero, List.set_cons_succ]
          refine wpAnyH_ready (rs := [3, 5]) (by kernel_rfl) (by simp) ?_
          refine AllReadyH.cons (o := { dst := some 60, op := Op.call { callee := Callee.value (Operand.func 31), args := #[Operand.tmp 59], argTypes := #[66] }, type := 70, pos := "instr.go:64", after := #[{ on := 2, ground := Ground.data }, { on := 1, ground := Ground.chain }, { on := 1, ground := Ground.guard }], guard := some (1, true) }) rfl (fun K hK => ?_) ?_
          · skip
            go_simp
            refine (HS2.out _ _).mono ?_
            rintro e wq ⟨rfl, hnq⟩
            go_wp2_with fail
            have hbx := hp1 hbx hnq
            have hn : (fun w' => New w w' ∧ w'.heap[wa.heap.size]? = some (.cells #[.int .i64 11, .int .i64 ln] 66)) wq := ⟨New.trans hn.1 hnq, hp1 hn.2 hnq⟩
            refine hK.out _ _ (by first | exact hn | exact Upd.alloc hn _) (fun hn => ?_)
            clear hK K
            try simp only [Act.put, List.setIfInBounds_toArray, List.set_cons_zero, List.set_cons_succ]
            refine wpAnyH_ready (rs := [5]) (by kernel_rfl) (by simp) ?_
            refine AllReadyH.cons (o := { dst := some 62, op := Op.load 9 (Operand.tmp 61), type := 9, pos := "instr.go:64", after := #[{ on := 4, ground := Ground.data }, { on := 1, ground := Ground.guard }], guard := some (1, true) }) rfl (fun K hK => ?_) AllReadyH.nil
            have z9 := cellAt hbx 9 (v := .string raw) rfl
            go_simp
            refine hK.out _ _ (by first | exact hn | exact Upd.alloc hn _) (fun hn => ?_)
            clear hK K
            try simp only [Act.put, List.setIfInBounds_toArray, List.set_cons_zero, List.set_cons_succ]
            refine wpAnyH_take (i := 6) (oi := { dst := some 63, op := Op.call { callee := Callee.builtin Builtin.len, args := #[Operand.tmp 62], argTypes := #[9] }, type := 3, pos := "instr.go:64", after := #[{ on := 5, ground := Ground.data }, { on := 1, ground := Ground.guard }], guard := some (1, true) }) (v := ?v28x5) rfl (by kernel_rfl) (by kernel_rfl) (by kernel_rfl) (fun _ _ _ h => h) (Or.inl ⟨by rfl, ?y28x5⟩) hn ?r28x5
            case y28x5 => (intro wS hS; (try go_simp); (try with_reducible rfl))
            try simp only [Act.put, List.setIfInBounds_toArray, List.set_cons_zero, List.set_cons_succ]
            refine wpAnyH_ready (rs := [7]) (by kernel_rfl) (by simp) ?_
            refine AllReadyH.cons (o := { dst := some 64, op := Op.call { callee := Callee.value (Operand.func 32), args := #[Operand.tmp 60, Operand.tmp 63], argTypes := #[70, 3] }, type := 4, pos := "instr.go:64", after := #[{ on := 3, ground := Ground.data }, { on := 6, ground := Ground.data }, { on := 3, ground := Ground.chain }, { on := 1, ground := Ground.guard }], guard := some (1, true) }) rfl (fun K hK => ?_) AllReadyH.nil
            go_simp
            refine (HH2.out _).mono ?_
            rintro e wr ⟨rfl, hnq⟩
            go_wp2_with fail
            have hbx := hp1 hbx hnq
            have hn : (fun w' => New w w' ∧ w'.heap[wa.heap.size]? = some (.cells #[.int .i64 11, .int .i64 ln] 66)) wr := ⟨New.trans hn.1 hnq, hp1 hn.2 hnq⟩
            refine hK.out _ _ (by first | exact hn | exact Upd.alloc hn _) (fun hn => ?_)
            clear hK K
            try simp only [Act.put, List.setIfInBounds_toArray, List.set_cons_zero, List.set_cons_succ]
            refine wpAnyH_take (i := 8) (oi := { dst := some 65, op := Op.pick (Operand.tmp 58) (Operand.tmp 64) (Operand.const (Value.bool false)), type := 4, pos := "instr.go:64", after := #[{ on := 1, ground := Ground.data }, { on := 7, ground := Ground.data }], guard := none }) (v := ?v28x6) rfl (by kernel_rfl) (by kernel_rfl) (by kernel_rfl) (fun _ _ _ h => h) (Or.inl ⟨by rfl, ?y28x6⟩) hn ?r28x6
            case y28x6 => (intro wS hS; (try go_simp); (try with_reducible rfl))
            try simp only [Act.put, List.setIfInBounds_toArray, List.set_cons_zero, List.set_cons_succ]
            refine wpAnyH_take (i := 9) (oi := { dst := some 66, op := Op.move (Operand.tmp 65), type := 4, pos := "instr.go:64", after := #[{ on := 8, ground := Ground.data }, { on := 7, ground := Ground.chain }], guard := none }) (v := ?v28x7) rfl (by kernel_rfl) (by kernel_rfl) (by kernel_rfl) (fun _ _ _ h => h) (Or.inl ⟨by rfl, ?y28x7⟩) hn ?r28x7
            case y28x7 => (intro wS hS; (try go_simp); (try with_reducible rfl))
            try simp only [Act.put, List.setIfInBounds_toArray, List.set_cons_zero, List.set_cons_succ]
            refine wpAnyH_take (i := 10) (oi := { dst := some 67, op := Op.fieldAddr 66 (Operand.tmp 3) 0, type := 0, pos := "instr.go:64", after := #[{ on := 9, ground := Ground.guard }], guard := some (9, true) }) (v := ?v28x8) rfl (by kernel_rfl) (by kernel_rfl) (by kernel_rfl) (fun _ _ _ h => h) (Or.inl ⟨by rfl, ?y28x8⟩) hn ?r28x8
            case y28x8 => (intro wS hS; (try go_simp); (try with_reducible rfl))
            try simp only [Act.put, List.setIfInBounds_toArray, List.set_cons_zero, List.set_cons_succ]
            refine wpAnyH_take (i := 11) (oi := { dst := some 68, op := Op.load 3 (Operand.tmp 67), type := 3, pos := "instr.go:64", after := #[{ on := 10, ground := Ground.data }, { on := 9, ground := Ground.guard }], guard := some (9, true) }) (v := ?v28x9) rfl (by kernel_rfl) (by kernel_rfl) (by kernel_rfl) (fun _ _ _ h => h) (Or.inl ⟨by rfl, ?y28x9⟩) hn ?r28x9
            case y28x9 => (intro wS hS; have c0 := cellAt hS.2 0 rfl; (try go_simp); (try with_reducible rfl))
            try simp only [Act.put, List.setIfInBounds_toArray, List.set_cons_zero, List.set_cons_succ]
            refine wpAnyH_take (i := 12) (oi := { dst := some 69, op := Op.binOp BinOp.neq 3 (Operand.tmp 68) (Operand.const (Value.int IntKind.i64 14)) 3, type := 4, pos := "instr.go:64", after := #[{ on := 11, ground := Ground.data }, { on := 9, ground := Ground.guard }], guard := some (9, true) }) (v := ?v28x10) rfl (by kernel_rfl) (by kernel_rfl) (by kernel_rfl) (fun _ _ _ h => h) (Or.inl ⟨by rfl, ?y28x10⟩) hn ?r28x10
            case y28x10 => (intro wS hS; (try go_simp); (try with_reducible rfl))
            try simp only [Act.put, List.setIfInBounds_toArray, List.set_cons_zero, List.set_cons_succ]
            refine wpAnyH_take (i := 13) (oi := { dst := some 70, op := Op.move (Operand.tmp 69), type := 4, pos := "instr.go:64", after := #[{ on := 12, ground := Ground.data }, { on := 9, ground := Ground.chain }, { on := 9, ground := Ground.guard }], guard := some (9, true) }) (v := ?v28x11) rfl (by kernel_rfl) (by kernel_rfl) (by kernel_rfl) (fun _ _ _ h => h) (Or.inl ⟨by rfl, ?y28x11⟩) hn ?r28x11
            case y28x11 => (intro wS hS; (try go_simp); (try with_reducible rfl))
            try simp only [Act.put, List.setIfInBounds_toArray, List.set_cons_zero, List.set_cons_succ]
            refine wpAnyH_take (i := 14) (oi := { dst := some 71, op := Op.fieldAddr 34 (Operand.tmp 1) 6, type := 0, pos := "instr.go:64", after := #[{ on := 13, ground := Ground.guard }], guard := some (13, false) }) (v := undef) rfl (by kernel_rfl) (by kernel_rfl) (by kernel_rfl) (fun _ _ _ h => h) (Or.inr ⟨by rfl, rfl⟩) hn ?_
            try simp only [Act.put, List.setIfInBounds_toArray, List.set_cons_zero, List.set_cons_succ]
            refine wpAnyH_take (i := 15) (oi := { dst := some 72, op := Op.load 9 (Operand.tmp 71), type := 9, pos := "instr.go:64", after := #[{ on := 14, ground := Ground.data }, { on := 13, ground := Ground.guard }], guard := some (13, false) }) (v := undef) rfl (by kernel_rfl) (by kernel_rfl) (by kernel_rfl) (fun _ _ _ h => h) (Or.inr ⟨by rfl, rfl⟩) hn ?_
            try simp only [Act.put, List.setIfInBounds_toArray, List.set_cons_zero, List.set_cons_succ]
            refine wpAnyH_take (i := 16) (oi := { dst := some 73, op := Op.call { callee := Callee.value (Operand.func 33), args := #[Operand.tmp 72], argTypes := #[9] }, type := 4, pos := "instr.go:64", after := #[{ on := 15, ground := Ground.data }, { on := 13, ground := Ground.chain }, { on := 13, ground := Ground.guard }], guard := some (13, false) }) (v := undef) rfl (by kernel_rfl) (by kernel_rfl) (by kernel_rfl) (fun _ _ _ h => h) (Or.inr ⟨by rfl, rfl⟩) hn ?_
            try simp only [Act.put, List.setIfInBounds_toArray, List.set_cons_zero, List.set_cons_succ]
            refine wpAnyH_take (i := 17) (oi := { dst := some 74, op := Op.pick (Operand.tmp 70) (Operand.const (Value.bool true)) (Operand.tmp 73), type := 4, pos := "instr.go:64", after := #[{ on := 13, ground := Ground.data }, { on := 16, ground := Ground.data }, { on := 9, ground := Ground.guard }], guard := some (9, true) }) (v := ?v28x15) rfl (by kernel_rfl) (by kernel_rfl) (by kernel_rfl) (fun _ _ _ h => h) (Or.inl ⟨by rfl, ?y28x15⟩) hn ?r28x15
            case y28x15 => (intro wS hS; (try go_simp); (try with_reducible rfl))
            try simp only [Act.put, List.setIfInBounds_toArray, List.set_cons_zero, List.set_cons_succ]
            refine wpAnyH_take (i := 18) (oi := { dst := some 75, op := Op.pick (Operand.tmp 66) (Operand.tmp 74) (Operand.const (Value.bool false)), type := 4, pos := "instr.go:64", after := #[{ on := 9, ground := Ground.data }, { on := 17, ground := Ground.data }], guard := none }) (v := ?v28x16) rfl (by kernel_rfl) (by kernel_rfl) (by kernel_rfl) (fun _ _ _ h => h) (Or.inl ⟨by rfl, ?y28x16⟩) hn ?r28x16
            case y28x16 => (intro wS hS; (try go_simp); (try with_reducible rfl))
            try simp only [Act.put, List.setIfInBounds_toArray, List.set_cons_zero, List.set_cons_succ]
            refine wpAnyH_take (i := 19) (oi := { dst := some 4, op := Op.assign (Operand.tmp 75), type := 4, pos := "instr.go:64", after := #[{ on := 18, ground := Ground.data }, { on := 16, ground := Ground.chain }, { on := 0, ground := Ground.phase }, { on := 1, ground := Ground.phase }, { on := 2, ground := Ground.phase }, { on := 3, ground := Ground.phase }, { on := 4, ground := Ground.phase }, { on := 5, ground := Ground.phase }, { on := 6, ground := Ground.phase }, { on := 7, ground := Ground.phase }, { on := 8, ground := Ground.phase }, { on := 9, ground := Ground.phase }, { on := 10, ground := Ground.phase }, { on := 11, ground := Ground.phase }, { on := 12, ground := Ground.phase }, { on := 13, ground := Ground.phase }, { on := 14, ground := Ground.phase }, { on := 15, ground := Ground.phase }, { on := 16, ground := Ground.phase }, { on := 17, ground := Ground.phase }, { on := 18, ground := Ground.phase }], guard := none }) (v := ?v28x17) rfl (by kernel_rfl) (by kernel_rfl) (by kernel_rfl) (fun _ _ _ h => h) (Or.inl ⟨by rfl, ?y28x17⟩) hn ?r28x17
            case y28x17 => (intro wS hS; (try go_simp); (try with_reducible rfl))
            try simp only [Act.put, List.setIfInBounds_toArray, List.set_cons_zero, List.set_cons_succ]
            refine wpAnyH_take (i := 20) (oi := { dst := some 76, op := Op.fieldAddr 34 (Operand.tmp 1) 6, type := 0, pos := "instr.go:64", after := #[{ on := 0, ground := Ground.phase }, { on := 1, ground := Ground.phase }, { on := 2, ground := Ground.phase }, { on := 3, ground := Ground.phase }, { on := 4, ground := Ground.phase }, { on := 5, ground := Ground.phase }, { on := 6, ground := Ground.phase }, { on := 7, ground := Ground.phase }, { on := 8, ground := Ground.phase }, { on := 9, ground := Ground.phase }, { on := 10, ground := Ground.phase }, { on := 11, ground := Ground.phase }, { on := 12, ground := Ground.phase }, { on := 13, ground := Ground.phase }, { on := 14, ground := Ground.phase }, { on := 15, ground := Ground.phase }, { on := 16, ground := Ground.phase }, { on := 17, ground := Ground.phase }, { on := 18, ground := Ground.phase }, { on := 19, ground := Ground.phase }], guard := none }) (v := ?v28x18) rfl (by kernel_rfl) (by kernel_rfl) (by kernel_rfl) (fun _ _ _ h => h) (Or.inl ⟨by rfl, ?y28x18⟩) hn ?r28x18
            case y28x18 => (intro wS hS; (try go_simp); (try with_reducible rfl))
            try simp only [Act.put, List.setIfInBounds_toArray, List.set_cons_zero, List.set_cons_succ]
            refine wpAnyH_ready (rs := [21]) (by kernel_rfl) (by simp) ?_
            refine AllReadyH.cons (o := { dst := none, op := Op.store 9 (Operand.tmp 76) (Operand.const (Value.string { data := #[] })), type := 0, pos := "instr.go:64", after := #[{ on := 20, ground := Ground.data }, { on := 19, ground := Ground.chain }, { on := 0, ground := Ground.phase }, { on := 1, ground := Ground.phase }, { on := 2, ground := Ground.phase }, { on := 3, ground := Ground.phase }, { on := 4, ground := Ground.phase }, { on := 5, ground := Ground.phase }, { on := 6, ground := Ground.phase }, { on := 7, ground := Ground.phase }, { on := 8, ground := Ground.phase }, { on := 9, ground := Ground.phase }, { on := 10, ground := Ground.phase }, { on := 11, ground := Ground.phase }, { on := 12, ground := Ground.phase }, { on := 13, ground := Ground.phase }, { on := 14, ground := Ground.phase }, { on := 15, ground := Ground.phase }, { on := 16, ground := Ground.phase }, { on := 17, ground := Ground.phase }, { on := 18, ground := Ground.phase }, { on := 19, ground := Ground.phase }], guard := none }) rfl (fun K hK => ?_) AllReadyH.nil
            have z9 := cellAt hbx 9 (v := .string raw) rfl
            have f9 := frozenAt hbx 9
            go_simp
            have hbx := hp_set hbx 9 (.string ⟨#[]⟩)
            have hn : (fun w' => New w w' ∧ w'.heap[wa.heap.size]? = some (.cells #[.int .i64 11, .int .i64 ln] 66)) (wr.setCell ⟨w.heap.size, 9, none⟩ (.string ⟨#[]⟩)) := ⟨setNew hn.1 9 _, hp_other hn.2 HNE.out⟩
            refine hK.out _ _ (by first | exact hn | exact Upd.alloc hn _) (fun hn => ?_)
            clear hK K
            try simp only [Act.put, List.setIfInBounds_toArray, List.set_cons_zero, List.set_cons_succ]
            refine wpAnyH_done (by kernel_rfl) ?_ _
            refine NoPanic.normal ?_
            go_wp2_with fail
            go_meet
            exact ⟨_, (.slice al li.length cl), (.slice au (lb ty).length cu), rfl, (by have h : raw.size = 4 := (by have := has_eq HBH.out; omega); simp [ownQ, h]), hbx, hn.1, HL.out.new hn.1, HU.out.new hn.1⟩
          refine AllReadyH.cons (o := { dst := some 62, op := Op.load 9 (Operand.tmp 61), type := 9, pos := "instr.go:64", after := #[{ on := 4, ground := Ground.data }, { on := 1, ground := Ground.guard }], guard := some (1, true) }) rfl (fun K hK => ?_) AllReadyH.nil
          have z9 := cellAt hbx 9 (v := .string raw) rfl
          go_simp
          refine hK.out _ _ (by first | exact hn | exact Upd.alloc hn _) (fun hn => ?_)
          clear hK K
          try simp only [Act.put, List.setIfInBounds_toArray, List.set_cons_zero, List.set_cons_succ]
          refine wpAnyH_take (i := 6) (oi := { dst := some 63, op := Op.call { callee := Callee.builtin Builtin.len, args := #[Operand.tmp 62], argTypes := #[9] }, type := 3, pos := "instr.go:64", after := #[{ on := 5, ground := Ground.data }, { on := 1, ground := Ground.guard }], guard := some (1, true) }) (v := ?v28x19) rfl (by kernel_rfl) (by kernel_rfl) (by kernel_rfl) (fun _ _ _ h => h) (Or.inl ⟨by rfl, ?y28x19⟩) hn ?r28x19
          case y28x19 => (intro wS hS; (try go_simp); (try with_reducible rfl))
          try simp only [Act.put, List.setIfInBounds_toArray, List.set_cons_zero, List.set_cons_succ]
          refine wpAnyH_ready (rs := [3]) (by kernel_rfl) (by simp) ?_
          refine AllReadyH.cons (o := { dst := some 60, op := Op.call { callee := Callee.value (Operand.func 31), args := #[Operand.tmp 59], argTypes := #[66] }, type := 70, pos := "instr.go:64", after := #[{ on := 2, ground := Ground.data }, { on := 1, ground := Ground.chain }, { on := 1, ground := Ground.guard }], guard := some (1, true) }) rfl (fun K hK => ?_) AllReadyH.nil
          go_simp
          refine (HS2.out _ _).mono ?_
          rintro e wq ⟨rfl, hnq⟩
          go_wp2_with fail
          have hbx := hp1 hbx hnq
          have hn : (fun w' => New w w' ∧ w'.heap[wa.heap.size]? = some (.cells #[.int .i64 11, .int .i64 ln] 66)) wq := ⟨New.trans hn.1 hnq, hp1 hn.2 hnq⟩
          refine hK.out _ _ (by first | exact hn | exact Upd.alloc hn _) (fun hn => ?_)
          clear hK K
          try simp only [Act.put, List.setIfInBounds_toArray, List.set_cons_zero, List.set_cons_succ]
          refine wpAnyH_ready (rs := [7]) (by kernel_rfl) (by simp) ?_
          refine AllReadyH.cons (o := { dst := some 64, op := Op.call { callee := Callee.value (Operand.func 32), args := #[Operand.tmp 60, Operand.tmp 63], argTypes := #[70, 3] }, type := 4, pos := "instr.go:64", after := #[{ on := 3, ground := Ground.data }, { on := 6, ground := Ground.data }, { on := 3, ground := Ground.chain }, { on := 1, ground := Ground.guard }], guard := some (1, true) }) rfl (fun K hK => ?_) AllReadyH.nil
          go_simp
          refine (HH2.out _).mono ?_
          rintro e wr ⟨rfl, hnq⟩
          go_wp2_with fail
          have hbx := hp1 hbx hnq
          have hn : (fun w' => New w w' ∧ w'.heap[wa.heap.size]? = some (.cells #[.int .i64 11, .int .i64 ln] 66)) wr := ⟨New.trans hn.1 hnq, hp1 hn.2 hnq⟩
          refine hK.out _ _ (by first | exact hn | exact Upd.alloc hn _) (fun hn => ?_)
          clear hK K
          try simp only [Act.put, List.setIfInBounds_toArray, List.set_cons_zero, List.set_cons_succ]
          refine wpAnyH_take (i := 8) (oi := { dst := some 65, op := Op.pick (Operand.tmp 58) (Operand.tmp 64) (Operand.const (Value.bool false)), type := 4, pos := "instr.go:64", after := #[{ on := 1, ground := Ground.data }, { on := 7, ground := Ground.data }], guard := none }) (v := ?v28x20) rfl (by kernel_rfl) (by kernel_rfl) (by kernel_rfl) (fun _ _ _ h => h) (Or.inl ⟨by rfl, ?y28x20⟩) hn ?r28x20
          case y28x20 => (intro wS hS; (try go_simp); (try with_reducible rfl))
          try simp only [Act.put, List.setIfInBounds_toArray, List.set_cons_zero, List.set_cons_succ]
          refine wpAnyH_take (i := 9) (oi := { dst := some 66, op := Op.move (Operand.tmp 65), type := 4, pos := "instr.go:64", after := #[{ on := 8, ground := Ground.data }, { on := 7, ground := Ground.chain }], guard := none }) (v := ?v28x21) rfl (by kernel_rfl) (by kernel_rfl) (by kernel_rfl) (fun _ _ _ h => h) (Or.inl ⟨by rfl, ?y28x21⟩) hn ?r28x21
          case y28x21 => (intro wS hS; (try go_simp); (try with_reducible rfl))
          try simp only [Act.put, List.setIfInBounds_toArray, List.set_cons_zero, List.set_cons_succ]
          refine wpAnyH_take (i := 10) (oi := { dst := some 67, op := Op.fieldAddr 66 (Operand.tmp 3) 0, type := 0, pos := "instr.go:64", after := #[{ on := 9, ground := Ground.guard }], guard := some (9, true) }) (v := ?v28x22) rfl (by kernel_rfl) (by kernel_rfl) (by kernel_rfl) (fun _ _ _ h => h) (Or.inl ⟨by rfl, ?y28x22⟩) hn ?r28x22
          case y28x22 => (intro wS hS; (try go_simp); (try with_reducible rfl))
          try simp only [Act.put, List.setIfInBounds_toArray, List.set_cons_zero, List.set_cons_succ]
          refine wpAnyH_take (i := 11) (oi := { dst := some 68, op := Op.load 3 (Operand.tmp 67), type := 3, pos := "instr.go:64", after := #[{ on := 10, ground := Ground.data }, { on := 9, ground := Ground.guard }], guard := some (9, true) }) (v := ?v28x23) rfl (by kernel_rfl) (by kernel_rfl) (by kernel_rfl) (fun _ _ _ h => h) (Or.inl ⟨by rfl, ?y28x23⟩) hn ?r28x23
          case y28x23 => (intro wS hS; have c0 := cellAt hS.2 0 rfl; (try go_simp); (try with_reducible rfl))
          try simp only [Act.put, List.setIfInBounds_toArray, List.set_cons_zero, List.set_cons_succ]
          refine wpAnyH_take (i := 12) (oi := { dst := some 69, op := Op.binOp BinOp.neq 3 (Operand.tmp 68) (Operand.const (Value.int IntKind.i64 14)) 3, type := 4, pos := "instr.go:64", after := #[{ on := 11, ground := Ground.data }, { on := 9, ground := Ground.guard }], guard := some (9, true) }) (v := ?v28x24) rfl (by kernel_rfl) (by kernel_rfl) (by kernel_rfl) (fun _ _ _ h => h) (Or.inl ⟨by rfl, ?y28x24⟩) hn ?r28x24
          case y28x24 => (intro wS hS; (try go_simp); (try with_reducible rfl))
          try simp only [Act.put, List.setIfInBounds_toArray, List.set_cons_zero, List.set_cons_succ]
          refine wpAnyH_take (i := 13) (oi := { dst := some 70, op := Op.move (Operand.tmp 69), type := 4, pos := "instr.go:64", after := #[{ on := 12, ground := Ground.data }, { on := 9, ground := Ground.chain }, { on := 9, ground := Ground.guard }], guard := some (9, true) }) (v := ?v28x25) rfl (by kernel_rfl) (by kernel_rfl) (by kernel_rfl) (fun _ _ _ h => h) (Or.inl ⟨by rfl, ?y28x25⟩) hn ?r28x25
          case y28x25 => (intro wS hS; (try go_simp); (try with_reducible rfl))
          try simp only [Act.put, List.setIfInBounds_toArray, List.set_cons_zero, List.set_cons_succ]
          refine wpAnyH_take (i := 14) (oi := { dst := some 71, op := Op.fieldAddr 34 (Operand.tmp 1) 6, type := 0, pos := "instr.go:64", after := #[{ on := 13, ground := Ground.guard }], guard := some (13, false) }) (v := undef) rfl (by kernel_rfl) (by kernel_rfl) (by kernel_rfl) (fun _ _ _ h => h) (Or.inr ⟨by rfl, rfl⟩) hn ?_
          try simp only [Act.put, List.setIfInBounds_toArray, List.set_cons_zero, List.set_cons_succ]
          refine wpAnyH_take (i := 15) (oi := { dst := some 72, op := Op.load 9 (Operand.tmp 71), type := 9, pos := "instr.go:64", after := #[{ on := 14, ground := Ground.data }, { on := 13, ground := Ground.guard }], guard := some (13, false) }) (v := undef) rfl (by kernel_rfl) (by kernel_rfl) (by kernel_rfl) (fun _ _ _ h => h) (Or.inr ⟨by rfl, rfl⟩) hn ?_
          try simp only [Act.put, List.setIfInBounds_toArray, List.set_cons_zero, List.set_cons_succ]
          refine wpAnyH_take (i := 16) (oi := { dst := some 73, op := Op.call { callee := Callee.value (Operand.func 33), args := #[Operand.tmp 72], argTypes := #[9] }, type := 4, pos := "instr.go:64", after := #[{ on := 15, ground := Ground.data }, { on := 13, ground := Ground.chain }, { on := 13, ground := Ground.guard }], guard := some (13, false) }) (v := undef) rfl (by kernel_rfl) (by kernel_rfl) (by kernel_rfl) (fun _ _ _ h => h) (Or.inr ⟨by rfl, rfl⟩) hn ?_
          try simp only [Act.put, List.setIfInBounds_toArray, List.set_cons_zero, List.set_cons_succ]
          refine wpAnyH_take (i := 17) (oi := { dst := some 74, op := Op.pick (Operand.tmp 70) (Operand.const (Value.bool true)) (Operand.tmp 73), type := 4, pos := "instr.go:64", after := #[{ on := 13, ground := Ground.data }, { on := 16, ground := Ground.data }, { on := 9, ground := Ground.guard }], guard := some (9, true) }) (v := ?v28x29) rfl (by kernel_rfl) (by kernel_rfl) (by kernel_rfl) (fun _ _ _ h => h) (Or.inl ⟨by rfl, ?y28x29⟩) hn ?r28x29
          case y28x29 => (intro wS hS; (try go_simp); (try with_reducible rfl))
          try simp only [Act.put, List.setIfInBounds_toArray, List.set_cons_zero, List.set_cons_succ]
          refine wpAnyH_take (i := 18) (oi := { dst := some 75, op := Op.pick (Operand.tmp 66) (Operand.tmp 74) (Operand.const (Value.bool false)), type := 4, pos := "instr.go:64", after := #[{ on := 9, ground := Ground.data }, { on := 17, ground := Ground.data }], guard := none }) (v := ?v28x30) rfl (by kernel_rfl) (by kernel_rfl) (by kernel_rfl) (fun _ _ _ h => h) (Or.inl ⟨by rfl, ?y28x30⟩) hn ?r28x30
          case y28x30 => (intro wS hS; (try go_simp); (try with_reducible rfl))
          try simp only [Act.put, List.setIfInBounds_toArray, List.set_cons_zero, List.set_cons_succ]
          refine wpAnyH_take (i := 19) (oi := { dst := some 4, op := Op.assign (Operand.tmp 75), type := 4, pos := "instr.go:64", after := #[{ on := 18, ground := Ground.data }, { on := 16, ground := Ground.chain }, { on := 0, ground := Ground.phase }, { on := 1, ground := Ground.phase }, { on := 2, ground := Ground.phase }, { on := 3, ground := Ground.phase }, { on := 4, ground := Ground.phase }, { on := 5, ground := Ground.phase }, { on := 6, ground := Ground.phase }, { on := 7, ground := Ground.phase }, { on := 8, ground := Ground.phase }, { on := 9, ground := Ground.phase }, { on := 10, ground := Ground.phase }, { on := 11, ground := Ground.phase }, { on := 12, ground := Ground.phase }, { on := 13, ground := Ground.phase }, { on := 14, ground := Ground.phase }, { on := 15, ground := Ground.phase }, { on := 16, ground := Ground.phase }, { on := 17, ground := Ground.phase }, { on := 18, ground := Ground.phase }], guard := none }) (v := ?v28x31) rfl (by kernel_rfl) (by kernel_rfl) (by kernel_rfl) (fun _ _ _ h => h) (Or.inl ⟨by rfl, ?y28x31⟩) hn ?r28x31
          case y28x31 => (intro wS hS; (try go_simp); (try with_reducible rfl))
          try simp only [Act.put, List.setIfInBounds_toArray, List.set_cons_zero, List.set_cons_succ]
          refine wpAnyH_take (i := 20) (oi := { dst := some 76, op := Op.fieldAddr 34 (Operand.tmp 1) 6, type := 0, pos := "instr.go:64", after := #[{ on := 0, ground := Ground.phase }, { on := 1, ground := Ground.phase }, { on := 2, ground := Ground.phase }, { on := 3, ground := Ground.phase }, { on := 4, ground := Ground.phase }, { on := 5, ground := Ground.phase }, { on := 6, ground := Ground.phase }, { on := 7, ground := Ground.phase }, { on := 8, ground := Ground.phase }, { on := 9, ground := Ground.phase }, { on := 10, ground := Ground.phase }, { on := 11, ground := Ground.phase }, { on := 12, ground := Ground.phase }, { on := 13, ground := Ground.phase }, { on := 14, ground := Ground.phase }, { on := 15, ground := Ground.phase }, { on := 16, ground := Ground.phase }, { on := 17, ground := Ground.phase }, { on := 18, ground := Ground.phase }, { on := 19, ground := Ground.phase }], guard := none }) (v := ?v28x32) rfl (by kernel_rfl) (by kernel_rfl) (by kernel_rfl) (fun _ _ _ h => h) (Or.inl ⟨by rfl, ?y28x32⟩) hn ?r28x32
          case y28x32 => (intro wS hS; (try go_simp); (try with_reducible rfl))
          try simp only [Act.put, List.setIfInBounds_toArray, List.set_cons_zero, List.set_cons_succ]
          refine wpAnyH_ready (rs := [21]) (by kernel_rfl) (by simp) ?_
          refine AllReadyH.cons (o := { dst := none, op := Op.store 9 (Operand.tmp 76) (Operand.const (Value.string { data := #[] })), type := 0, pos := "instr.go:64", after := #[{ on := 20, ground := Ground.data }, { on := 19, ground := Ground.chain }, { on := 0, ground := Ground.phase }, { on := 1, ground := Ground.phase }, { on := 2, ground := Ground.phase }, { on := 3, ground := Ground.phase }, { on := 4, ground := Ground.phase }, { on := 5, ground := Ground.phase }, { on := 6, ground := Ground.phase }, { on := 7, ground := Ground.phase }, { on := 8, ground := Ground.phase }, { on := 9, ground := Ground.phase }, { on := 10, ground := Ground.phase }, { on := 11, ground := Ground.phase }, { on := 12, ground := Ground.phase }, { on := 13, ground := Ground.phase }, { on := 14, ground := Ground.phase }, { on := 15, ground := Ground.phase }, { on := 16, ground := Ground.phase }, { on := 17, ground := Ground.phase }, { on := 18, ground := Ground.phase }, { on := 19, ground := Ground.phase }], guard := none }) rfl (fun K hK => ?_) AllReadyH.nil
          have z9 := cellAt hbx 9 (v := .string raw) rfl
          have f9 := frozenAt hbx 9
          go_simp
          have hbx := hp_set hbx 9 (.string ⟨#[]⟩)
          have hn : (fun w' => New w w' ∧ w'.heap[wa.heap.size]? = some (.cells #[.int .i64 11, .int .i64 ln] 66)) (wr.setCell ⟨w.heap.size, 9, none⟩ (.string ⟨#[]⟩)) := ⟨setNew hn.1 9 _, hp_other hn.2 HNE.out⟩
          refine hK.out _ _ (by first | exact hn | exact Upd.alloc hn _) (fun hn => ?_)
          clear hK K
          try simp only [Act.put, List.setIfInBounds_toArray, List.set_cons_zero, List.set_cons_succ]
          refine wpAnyH_done (by kernel_rfl) ?_ _
          refine NoPanic.normal ?_
          go_wp2_with fail
          go_meet
          exact ⟨_, (.slice al li.length cl), (.slice au (lb ty).length cu), rfl, (by have h : raw.size = 4 := (by have := has_eq HBH.out; omega); simp [ownQ, h]), hbx, hn.1, HL.out.new hn.1, HU.out.new hn.1⟩
        | false =>
          have hn : (fun w' => New w w' ∧ w'.heap[wa.heap.size]? = some (.cells #[.int .i64 11, .int .i64 ln] 66)) wb.drew := ⟨HN.out.drew, HI.out⟩
          have hbx : Box wb.drew w.heap.size ⟨p, c, k, t, i, x, y, li, n, raw, lane, ty⟩ (.slice al li.length cl) (.slice au (lb ty).length cu) := HB.out
          clear y0 y1 z9 f9
          go_wp2_with fail
          refine wp_region_noPanic ?_
          refine wp_region_held_drew (S := (fun w' => New w w' ∧ w'.heap[wa.heap.size]? = some (.cells #[.int .i64 11, .int .i64 ln] 66))) (by kernel_rfl) (by first | exact hn | exact (Upd.refl _ _).drew | exact Upd.drew (by assumption)) (fun hn => ?_)
          generalize wb.drew = wd at *
          refine wpAnyH_take (i := 0) (oi := { dst := some 57, op := Op.move (Operand.tmp 4), type := 4, pos := "instr.go:64", after := #[], guard := none }) (v := ?v29x1) rfl (by kernel_rfl) (by kernel_rfl) (by kernel_rfl) (fun _ _ _ h => h) (Or.inl ⟨by rfl, ?y29x1⟩) hn ?r29x1
          case y29x1 => (intro wS hS; (try go_simp); (try with_reducible rfl))
          try simp only [Act.put, List.setIfInBounds_toArray, List.set_cons_zero, List.set_cons_succ]
          refine wpAnyH_take (i := 1) (oi := { dst := some 58, op := Op.move (Operand.tmp 57), type := 4, pos := "instr.go:64", after := #[{ on := 0, ground := Ground.data }], guard := none }) (v := ?v29x2) rfl (by kernel_rfl) (by kernel_rfl) (by kernel_rfl) (fun _ _ _ h => h) (Or.inl ⟨by rfl, ?y29x2⟩) hn ?r29x2
          case y29x2 => (intro wS hS; (try go_simp); (try with_reducible rfl))
          try simp only [Act.put, List.setIfInBounds_toArray, List.set_cons_zero, List.set_cons_succ]
          refine wpAnyH_take (i := 2) (oi := { dst := some 59, op := Op.load 66 (Operand.tmp 3), type := 66, pos := "instr.go:64", after := #[{ on := 1, ground := Ground.guard }], guard := some (1, true) }) (v := ?v29x3) rfl (by kernel_rfl) (by kernel_rfl) (by kernel_rfl) (fun _ _ _ h => h) (Or.inl ⟨by rfl, ?y29x3⟩) hn ?r29x3
          case y29x3 => (intro wS hS; have c0 := cellAt hS.2 0 rfl; have c1 := cellAt hS.2 1 rfl; (try go_simp); (try with_reducible rfl))
          try simp only [Act.put, List.setIfInBounds_toArray, List.set_cons_zero, List.set_cons_succ]
          refine wpAnyH_take (i := 4) (oi := { dst := some 61, op := Op.fieldAddr 34 (Operand.tmp 1) 6, type := 0, pos := "instr.go:64", after := #[{ on := 1, ground := Ground.guard }], guard := some (1, true) }) (v := ?v29x4) rfl (by kernel_rfl) (by kernel_rfl) (by kernel_rfl) (fun _ _ _ h => h) (Or.inl ⟨by rfl, ?y29x4⟩) hn ?r29x4
          case y29x4 => (intro wS hS; (try go_simp); (try with_reducible rfl))
          try simp only [Act.put, List.setIfInBounds_toArray, List.set_cons_zero, List.set_cons_succ]
          refine wpAnyH_ready (rs := [3, 5]) (by kernel_rfl) (by simp) ?_
          refine AllReadyH.cons (o := { dst := some 60, op := Op.call { callee := Callee.value (Operand.func 31), args := #[Operand.tmp 59], argTypes := #[66] }, type := 70, pos := "instr.go:64", after := #[{ on := 2, ground := Ground.data }, { on := 1, ground := Ground.chain }, { on := 1, ground := Ground.guard }], guard := some (1, true) }) rfl (fun K hK => ?_) ?_
          · skip
            go_simp
            refine (HS2.out _ _).mono ?_
            rintro e wq ⟨rfl, hnq⟩
            go_wp2_with fail
            have hbx := hp1 hbx hnq
            have hn : (fun w' => New w w' ∧ w'.heap[wa.heap.size]? = some (.cells #[.int .i64 11, .int .i64 ln] 66)) wq := ⟨New.trans hn.1 hnq, hp1 hn.2 hnq⟩
            refine hK.out _ _ (by first | exact hn | exact Upd.alloc hn _) (fun hn => ?_)
            clear hK K
            try simp only [Act.put, List.setIfInBounds_toArray, List.set_cons_zero, List.set_cons_succ]
            refine wpAnyH_ready (rs := [5]) (by kernel_rfl) (by simp) ?_
            refine AllReadyH.cons (o := { dst := some 62, op := Op.load 9 (Operand.tmp 61), type := 9, pos := "instr.go:64", after := #[{ on := 4, ground := Ground.data }, { on := 1, ground := Ground.guard }], guard := some (1, true) }) rfl (fun K hK => ?_) AllReadyH.nil
            have z9 := cellAt hbx 9 (v := .string raw) rfl
            go_simp
            refine hK.out _ _ (by first | exact hn | exact Upd.alloc hn _) (fun hn => ?_)
            clear hK K
            try simp only [Act.put, List.setIfInBounds_toArray, List.set_cons_zero, List.set_cons_succ]
            refine wpAnyH_take (i := 6) (oi := { dst := some 63, op := Op.call { callee := Callee.builtin Builtin.len, args := #[Operand.tmp 62], argTypes := #[9] }, type := 3, pos := "instr.go:64", after := #[{ on := 5, ground := Ground.data }, { on := 1, ground := Ground.guard }], guard := some (1, true) }) (v := ?v29x5) rfl (by kernel_rfl) (by kernel_rfl) (by kernel_rfl) (fun _ _ _ h => h) (Or.inl ⟨by rfl, ?y29x5⟩) hn ?r29x5
            case y29x5 => (intro wS hS; (try go_simp); (try with_reducible rfl))
            try simp only [Act.put, List.setIfInBounds_toArray, List.set_cons_zero, List.set_cons_succ]
            refine wpAnyH_ready (rs := [7]) (by kernel_rfl) (by simp) ?_
            refine AllReadyH.cons (o := { dst := some 64, op := Op.call { callee := Callee.value (Operand.func 32), args := #[Operand.tmp 60, Operand.tmp 63], argTypes := #[70, 3] }, type := 4, pos := "instr.go:64", after := #[{ on := 3, ground := Ground.data }, { on := 6, ground := Ground.data }, { on := 3, ground := Ground.chain }, { on := 1, ground := Ground.guard }], guard := some (1, true) }) rfl (fun K hK => ?_) AllReadyH.nil
            go_simp
            refine (HH2.out _).mono ?_
            rintro e wr ⟨rfl, hnq⟩
            go_wp2_with fail
            have hbx := hp1 hbx hnq
            have hn : (fun w' => New w w' ∧ w'.heap[wa.heap.size]? = some (.cells #[.int .i64 11, .int .i64 ln] 66)) wr := ⟨New.trans hn.1 hnq, hp1 hn.2 hnq⟩
            refine hK.out _ _ (by first | exact hn | exact Upd.alloc hn _) (fun hn => ?_)
            clear hK K
            try simp only [Act.put, List.setIfInBounds_toArray, List.set_cons_zero, List.set_cons_succ]
            refine wpAnyH_take (i := 8) (oi := { dst := some 65, op := Op.pick (Operand.tmp 58) (Operand.tmp 64) (Operand.const (Value.bool false)), type := 4, pos := "instr.go:64", after := #[{ on := 1, ground := Ground.data }, { on := 7, ground := Ground.data }], guard := none }) (v := ?v29x6) rfl (by kernel_rfl) (by kernel_rfl) (by kernel_rfl) (fun _ _ _ h => h) (Or.inl ⟨by rfl, ?y29x6⟩) hn ?r29x6
            case y29x6 => (intro wS hS; (try go_simp); (try with_reducible rfl))
            try simp only [Act.put, List.setIfInBounds_toArray, List.set_cons_zero, List.set_cons_succ]
            refine wpAnyH_take (i := 9) (oi := { dst := some 66, op := Op.move (Operand.tmp 65), type := 4, pos := "instr.go:64", after := #[{ on := 8, ground := Ground.data }, { on := 7, ground := Ground.chain }], guard := none }) (v := ?v29x7) rfl (by kernel_rfl) (by kernel_rfl) (by kernel_rfl) (fun _ _ _ h => h) (Or.inl ⟨by rfl, ?y29x7⟩) hn ?r29x7
            case y29x7 => (intro wS hS; (try go_simp); (try with_reducible rfl))
            try simp only [Act.put, List.setIfInBounds_toArray, List.set_cons_zero, List.set_cons_succ]
            refine wpAnyH_take (i := 10) (oi := { dst := some 67, op := Op.fieldAddr 66 (Operand.tmp 3) 0, type := 0, pos := "instr.go:64", after := #[{ on := 9, ground := Ground.guard }], guard := some (9, true) }) (v := undef) rfl (by kernel_rfl) (by kernel_rfl) (by kernel_rfl) (fun _ _ _ h => h) (Or.inr ⟨by rfl, rfl⟩) hn ?_
            try simp only [Act.put, List.setIfInBounds_toArray, List.set_cons_zero, List.set_cons_succ]
            refine wpAnyH_take (i := 11) (oi := { dst := some 68, op := Op.load 3 (Operand.tmp 67), type := 3, pos := "instr.go:64", after := #[{ on := 10, ground := Ground.data }, { on := 9, ground := Ground.guard }], guard := some (9, true) }) (v := undef) rfl (by kernel_rfl) (by kernel_rfl) (by kernel_rfl) (fun _ _ _ h => h) (Or.inr ⟨by rfl, rfl⟩) hn ?_
            try simp only [Act.put, List.setIfInBounds_toArray, List.set_cons_zero, List.set_cons_succ]
            refine wpAnyH_take (i := 12) (oi := { dst := some 69, op := Op.binOp BinOp.neq 3 (Operand.tmp 68) (Operand.const (Value.int IntKind.i64 14)) 3, type := 4, pos := "instr.go:64", after := #[{ on := 11, ground := Ground.data }, { on := 9, ground := Ground.guard }], guard := some (9, true) }) (v := undef) rfl (by kernel_rfl) (by kernel_rfl) (by kernel_rfl) (fun _ _ _ h => h) (Or.inr ⟨by rfl, rfl⟩) hn ?_
            try simp only [Act.put, List.setIfInBounds_toArray, List.set_cons_zero, List.set_cons_succ]
            refine wpAnyH_take (i := 13) (oi := { dst := some 70, op := Op.move (Operand.tmp 69), type := 4, pos := "instr.go:64", after := #[{ on := 12, ground := Ground.data }, { on := 9, ground := Ground.chain }, { on := 9, ground := Ground.guard }], guard := some (9, true) }) (v := undef) rfl (by kernel_rfl) (by kernel_rfl) (by kernel_rfl) (fun _ _ _ h => h) (Or.inr ⟨by rfl, rfl⟩) hn ?_
            try simp only [Act.put, List.setIfInBounds_toArray, List.set_cons_zero, List.set_cons_succ]
            refine wpAnyH_take (i := 14) (oi := { dst := some 71, op := Op.fieldAddr 34 (Operand.tmp 1) 6, type := 0, pos := "instr.go:64", after := #[{ on := 13, ground := Ground.guard }], guard := some (13, false) }) (v := undef) rfl (by kernel_rfl) (by kernel_rfl) (by kernel_rfl) (fun _ _ _ h => h) (Or.inr ⟨by rfl, rfl⟩) hn ?_
            try simp only [Act.put, List.setIfInBounds_toArray, List.set_cons_zero, List.set_cons_succ]
            refine wpAnyH_take (i := 15) (oi := { dst := some 72, op := Op.load 9 (Operand.tmp 71), type := 9, pos := "instr.go:64", after := #[{ on := 14, ground := Ground.data }, { on := 13, ground := Ground.guard }], guard := some (13, false) }) (v := undef) rfl (by kernel_rfl) (by kernel_rfl) (by kernel_rfl) (fun _ _ _ h => h) (Or.inr ⟨by rfl, rfl⟩) hn ?_
            try simp only [Act.put, List.setIfInBounds_toArray, List.set_cons_zero, List.set_cons_succ]
            refine wpAnyH_take (i := 16) (oi := { dst := some 73, op := Op.call { callee := Callee.value (Operand.func 33), args := #[Operand.tmp 72], argTypes := #[9] }, type := 4, pos := "instr.go:64", after := #[{ on := 15, ground := Ground.data }, { on := 13, ground := Ground.chain }, { on := 13, ground := Ground.guard }], guard := some (13, false) }) (v := undef) rfl (by kernel_rfl) (by kernel_rfl) (by kernel_rfl) (fun _ _ _ h => h) (Or.inr ⟨by rfl, rfl⟩) hn ?_
            try simp only [Act.put, List.setIfInBounds_toArray, List.set_cons_zero, List.set_cons_succ]
            refine wpAnyH_take (i := 17) (oi := { dst := some 74, op := Op.pick (Operand.tmp 70) (Operand.const (Value.bool true)) (Operand.tmp 73), type := 4, pos := "instr.go:64", after := #[{ on := 13, ground := Ground.data }, { on := 16, ground := Ground.data }, { on := 9, ground := Ground.guard }], guard := some (9, true) }) (v := undef) rfl (by kernel_rfl) (by kernel_rfl) (by kernel_rfl) (fun _ _ _ h => h) (Or.inr ⟨by rfl, rfl⟩) hn ?_
            try simp only [Act.put, List.setIfInBounds_toArray, List.set_cons_zero, List.set_cons_succ]
            refine wpAnyH_take (i := 18) (oi := { dst := some 75, op := Op.pick (Operand.tmp 66) (Operand.tmp 74) (Operand.const (Value.bool false)), type := 4, pos := "instr.go:64", after := #[{ on := 9, ground := Ground.data }, { on := 17, ground := Ground.data }], guard := none }) (v := ?v29x16) rfl (by kernel_rfl) (by kernel_rfl) (by kernel_rfl) (fun _ _ _ h => h) (Or.inl ⟨by rfl, ?y29x16⟩) hn ?r29x16
            case y29x16 => (intro wS hS; (try go_simp); (try with_reducible rfl))
            try simp only [Act.put, List.setIfInBounds_toArray, List.set_cons_zero, List.set_cons_succ]
            refine wpAnyH_take (i := 19) (oi := { dst := some 4, op := Op.assign (Operand.tmp 75), type := 4, pos := "instr.go:64", after := #[{ on := 18, ground := Ground.data }, { on := 16, ground := Ground.chain }, { on := 0, ground := Ground.phase }, { on := 1, ground := Ground.phase }, { on := 2, ground := Ground.phase }, { on := 3, ground := Ground.phase }, { on := 4, ground := Ground.phase }, { on := 5, ground := Ground.phase }, { on := 6, ground := Ground.phase }, { on := 7, ground := Ground.phase }, { on := 8, ground := Ground.phase }, { on := 9, ground := Ground.phase }, { on := 10, ground := Ground.phase }, { on := 11, ground := Ground.phase }, { on := 12, ground := Ground.phase }, { on := 13, ground := Ground.phase }, { on := 14, ground := Ground.phase }, { on := 15, ground := Ground.phase }, { on := 16, ground := Ground.phase }, { on := 17, ground := Ground.phase }, { on := 18, ground := Ground.phase }], guard := none }) (v := ?v29x17) rfl (by kernel_rfl) (by kernel_rfl) (by kernel_rfl) (fun _ _ _ h => h) (Or.inl ⟨by rfl, ?y29x17⟩) hn ?r29x17
            case y29x17 => (intro wS hS; (try go_simp); (try with_reducible rfl))
            try simp only [Act.put, List.setIfInBounds_toArray, List.set_cons_zero, List.set_cons_succ]
            refine wpAnyH_take (i := 20) (oi := { dst := some 76, op := Op.fieldAddr 34 (Operand.tmp 1) 6, type := 0, pos := "instr.go:64", after := #[{ on := 0, ground := Ground.phase }, { on := 1, ground := Ground.phase }, { on := 2, ground := Ground.phase }, { on := 3, ground := Ground.phase }, { on := 4, ground := Ground.phase }, { on := 5, ground := Ground.phase }, { on := 6, ground := Ground.phase }, { on := 7, ground := Ground.phase }, { on := 8, ground := Ground.phase }, { on := 9, ground := Ground.phase }, { on := 10, ground := Ground.phase }, { on := 11, ground := Ground.phase }, { on := 12, ground := Ground.phase }, { on := 13, ground := Ground.phase }, { on := 14, ground := Ground.phase }, { on := 15, ground := Ground.phase }, { on := 16, ground := Ground.phase }, { on := 17, ground := Ground.phase }, { on := 18, ground := Ground.phase }, { on := 19, ground := Ground.phase }], guard := none }) (v := ?v29x18) rfl (by kernel_rfl) (by kernel_rfl) (by kernel_rfl) (fun _ _ _ h => h) (Or.inl ⟨by rfl, ?y29x18⟩) hn ?r29x18
            case y29x18 => (intro wS hS; (try go_simp); (try with_reducible rfl))
            try simp only [Act.put, List.setIfInBounds_toArray, List.set_cons_zero, List.set_cons_succ]
            refine wpAnyH_ready (rs := [21]) (by kernel_rfl) (by simp) ?_
            refine AllReadyH.cons (o := { dst := none, op := Op.store 9 (Operand.tmp 76) (Operand.const (Value.string { data := #[] })), type := 0, pos := "instr.go:64", after := #[{ on := 20, ground := Ground.data }, { on := 19, ground := Ground.chain }, { on := 0, ground := Ground.phase }, { on := 1, ground := Ground.phase }, { on := 2, ground := Ground.phase }, { on := 3, ground := Ground.phase }, { on := 4, ground := Ground.phase }, { on := 5, ground := Ground.phase }, { on := 6, ground := Ground.phase }, { on := 7, ground := Ground.phase }, { on := 8, ground := Ground.phase }, { on := 9, ground := Ground.phase }, { on := 10, ground := Ground.phase }, { on := 11, ground := Ground.phase }, { on := 12, ground := Ground.phase }, { on := 13, ground := Ground.phase }, { on := 14, ground := Ground.phase }, { on := 15, ground := Ground.phase }, { on := 16, ground := Ground.phase }, { on := 17, ground := Ground.phase }, { on := 18, ground := Ground.phase }, { on := 19, ground := Ground.phase }], guard := none }) rfl (fun K hK => ?_) AllReadyH.nil
            have z9 := cellAt hbx 9 (v := .string raw) rfl
            have f9 := frozenAt hbx 9
            go_simp
            have hbx := hp_set hbx 9 (.string ⟨#[]⟩)
            have hn : (fun w' => New w w' ∧ w'.heap[wa.heap.size]? = some (.cells #[.int .i64 11, .int .i64 ln] 66)) (wr.setCell ⟨w.heap.size, 9, none⟩ (.string ⟨#[]⟩)) := ⟨setNew hn.1 9 _, hp_other hn.2 HNE.out⟩
            refine hK.out _ _ (by first | exact hn | exact Upd.alloc hn _) (fun hn => ?_)
            clear hK K
            try simp only [Act.put, List.setIfInBounds_toArray, List.set_cons_zero, List.set_cons_succ]
            refine wpAnyH_done (by kernel_rfl) ?_ _
            refine NoPanic.normal ?_
            go_wp2_with fail
            go_meet
            exact ⟨_, (.slice al li.length cl), (.slice au (lb ty).length cu), rfl, (by have h := has_ne HBH.out; simp [ownQ, h]), hbx, hn.1, HL.out.new hn.1, HU.out.new hn.1⟩
          refine AllReadyH.cons (o := { dst := some 62, op := Op.load 9 (Operand.tmp 61), type := 9, pos := "instr.go:64", after := #[{ on := 4, ground := Ground.data }, { on := 1, ground := Ground.guard }], guard := some (1, true) }) rfl (fun K hK => ?_) AllReadyH.nil
          have z9 := cellAt hbx 9 (v := .string raw) rfl
          go_simp
          refine hK.out _ _ (by first | exact hn | exact Upd.alloc hn _) (fun hn => ?_)
          clear hK K
          try simp only [Act.put, List.setIfInBounds_toArray, List.set_cons_zero, List.set_cons_succ]
          refine wpAnyH_take (i := 6) (oi := { dst := some 63, op := Op.call { callee := Callee.builtin Builtin.len, args := #[Operand.tmp 62], argTypes := #[9] }, type := 3, pos := "instr.go:64", after := #[{ on := 5, ground := Ground.data }, { on := 1, ground := Ground.guard }], guard := some (1, true) }) (v := ?v29x19) rfl (by kernel_rfl) (by kernel_rfl) (by kernel_rfl) (fun _ _ _ h => h) (Or.inl ⟨by rfl, ?y29x19⟩) hn ?r29x19
          case y29x19 => (intro wS hS; (try go_simp); (try with_reducible rfl))
          try simp only [Act.put, List.setIfInBounds_toArray, List.set_cons_zero, List.set_cons_succ]
          refine wpAnyH_ready (rs := [3]) (by kernel_rfl) (by simp) ?_
          refine AllReadyH.cons (o := { dst := some 60, op := Op.call { callee := Callee.value (Operand.func 31), args := #[Operand.tmp 59], argTypes := #[66] }, type := 70, pos := "instr.go:64", after := #[{ on := 2, ground := Ground.data }, { on := 1, ground := Ground.chain }, { on := 1, ground := Ground.guard }], guard := some (1, true) }) rfl (fun K hK => ?_) AllReadyH.nil
          go_simp
          refine (HS2.out _ _).mono ?_
          rintro e wq ⟨rfl, hnq⟩
          go_wp2_with fail
          have hbx := hp1 hbx hnq
          have hn : (fun w' => New w w' ∧ w'.heap[wa.heap.size]? = some (.cells #[.int .i64 11, .int .i64 ln] 66)) wq := ⟨New.trans hn.1 hnq, hp1 hn.2 hnq⟩
          refine hK.out _ _ (by first | exact hn | exact Upd.alloc hn _) (fun hn => ?_)
          clear hK K
          try simp only [Act.put, List.setIfInBounds_toArray, List.set_cons_zero, List.set_cons_succ]
          refine wpAnyH_ready (rs := [7]) (by kernel_rfl) (by simp) ?_
          refine AllReadyH.cons (o := { dst := some 64, op := Op.call { callee := Callee.value (Operand.func 32), args := #[Operand.tmp 60, Operand.tmp 63], argTypes := #[70, 3] }, type := 4, pos := "instr.go:64", after := #[{ on := 3, ground := Ground.data }, { on := 6, ground := Ground.data }, { on := 3, ground := Ground.chain }, { on := 1, ground := Ground.guard }], guard := some (1, true) }) rfl (fun K hK => ?_) AllReadyH.nil
          go_simp
          refine (HH2.out _).mono ?_
          rintro e wr ⟨rfl, hnq⟩
          go_wp2_with fail
          have hbx := hp1 hbx hnq
          have hn : (fun w' => New w w' ∧ w'.heap[wa.heap.size]? = some (.cells #[.int .i64 11, .int .i64 ln] 66)) wr := ⟨New.trans hn.1 hnq, hp1 hn.2 hnq⟩
          refine hK.out _ _ (by first | exact hn | exact Upd.alloc hn _) (fun hn => ?_)
          clear hK K
          try simp only [Act.put, List.setIfInBounds_toArray, List.set_cons_zero, List.set_cons_succ]
          refine wpAnyH_take (i := 8) (oi := { dst := some 65, op := Op.pick (Operand.tmp 58) (Operand.tmp 64) (Operand.const (Value.bool false)), type := 4, pos := "instr.go:64", after := #[{ on := 1, ground := Ground.data }, { on := 7, ground := Ground.data }], guard := none }) (v := ?v29x20) rfl (by kernel_rfl) (by kernel_rfl) (by kernel_rfl) (fun _ _ _ h => h) (Or.inl ⟨by rfl, ?y29x20⟩) hn ?r29x20
          case y29x20 => (intro wS hS; (try go_simp); (try with_reducible rfl))
          try simp only [Act.put, List.setIfInBounds_toArray, List.set_cons_zero, List.set_cons_succ]
          refine wpAnyH_take (i := 9) (oi := { dst := some 66, op := Op.move (Operand.tmp 65), type := 4, pos := "instr.go:64", after := #[{ on := 8, ground := Ground.data }, { on := 7, ground := Ground.chain }], guard := none }) (v := ?v29x21) rfl (by kernel_rfl) (by kernel_rfl) (by kernel_rfl) (fun _ _ _ h => h) (Or.inl ⟨by rfl, ?y29x21⟩) hn ?r29x21
          case y29x21 => (intro wS hS; (try go_simp); (try with_reducible rfl))
          try simp only [Act.put, List.setIfInBounds_toArray, List.set_cons_zero, List.set_cons_succ]
          refine wpAnyH_take (i := 10) (oi := { dst := some 67, op := Op.fieldAddr 66 (Operand.tmp 3) 0, type := 0, pos := "instr.go:64", after := #[{ on := 9, ground := Ground.guard }], guard := some (9, true) }) (v := undef) rfl (by kernel_rfl) (by kernel_rfl) (by kernel_rfl) (fun _ _ _ h => h) (Or.inr ⟨by rfl, rfl⟩) hn ?_
          try simp only [Act.put, List.setIfInBounds_toArray, List.set_cons_zero, List.set_cons_succ]
          refine wpAnyH_take (i := 11) (oi := { dst := some 68, op := Op.load 3 (Operand.tmp 67), type := 3, pos := "instr.go:64", after := #[{ on := 10, ground := Ground.data }, { on := 9, ground := Ground.guard }], guard := some (9, true) }) (v := undef) rfl (by kernel_rfl) (by kernel_rfl) (by kernel_rfl) (fun _ _ _ h => h) (Or.inr ⟨by rfl, rfl⟩) hn ?_
          try simp only [Act.put, List.setIfInBounds_toArray, List.set_cons_zero, List.set_cons_succ]
          refine wpAnyH_take (i := 12) (oi := { dst := some 69, op := Op.binOp BinOp.neq 3 (Operand.tmp 68) (Operand.const (Value.int IntKind.i64 14)) 3, type := 4, pos := "instr.go:64", after := #[{ on := 11, ground := Ground.data }, { on := 9, ground := Ground.guard }], guard := some (9, true) }) (v := undef) rfl (by kernel_rfl) (by kernel_rfl) (by kernel_rfl) (fun _ _ _ h => h) (Or.inr ⟨by rfl, rfl⟩) hn ?_
          try simp only [Act.put, List.setIfInBounds_toArray, List.set_cons_zero, List.set_cons_succ]
          refine wpAnyH_take (i := 13) (oi := { dst := some 70, op := Op.move (Operand.tmp 69), type := 4, pos := "instr.go:64", after := #[{ on := 12, ground := Ground.data }, { on := 9, ground := Ground.chain }, { on := 9, ground := Ground.guard }], guard := some (9, true) }) (v := undef) rfl (by kernel_rfl) (by kernel_rfl) (by kernel_rfl) (fun _ _ _ h => h) (Or.inr ⟨by rfl, rfl⟩) hn ?_
          try simp only [Act.put, List.setIfInBounds_toArray, List.set_cons_zero, List.set_cons_succ]
          refine wpAnyH_take (i := 14) (oi := { dst := some 71, op := Op.fieldAddr 34 (Operand.tmp 1) 6, type := 0, pos := "instr.go:64", after := #[{ on := 13, ground := Ground.guard }], guard := some (13, false) }) (v := undef) rfl (by kernel_rfl) (by kernel_rfl) (by kernel_rfl) (fun _ _ _ h => h) (Or.inr ⟨by rfl, rfl⟩) hn ?_
          try simp only [Act.put, List.setIfInBounds_toArray, List.set_cons_zero, List.set_cons_succ]
          refine wpAnyH_take (i := 15) (oi := { dst := some 72, op := Op.load 9 (Operand.tmp 71), type := 9, pos := "instr.go:64", after := #[{ on := 14, ground := Ground.data }, { on := 13, ground := Ground.guard }], guard := some (13, false) }) (v := undef) rfl (by kernel_rfl) (by kernel_rfl) (by kernel_rfl) (fun _ _ _ h => h) (Or.inr ⟨by rfl, rfl⟩) hn ?_
          try simp only [Act.put, List.setIfInBounds_toArray, List.set_cons_zero, List.set_cons_succ]
          refine wpAnyH_take (i := 16) (oi := { dst := some 73, op := Op.call { callee := Callee.value (Operand.func 33), args := #[Operand.tmp 72], argTypes := #[9] }, type := 4, pos := "instr.go:64", after := #[{ on := 15, ground := Ground.data }, { on := 13, ground := Ground.chain }, { on := 13, ground := Ground.guard }], guard := some (13, false) }) (v := undef) rfl (by kernel_rfl) (by kernel_rfl) (by kernel_rfl) (fun _ _ _ h => h) (Or.inr ⟨by rfl, rfl⟩) hn ?_
          try simp only [Act.put, List.setIfInBounds_toArray, List.set_cons_zero, List.set_cons_succ]
          refine wpAnyH_take (i := 17) (oi := { dst := some 74, op := Op.pick (Operand.tmp 70) (Operand.const (Value.bool true)) (Operand.tmp 73), type := 4, pos := "instr.go:64", after := #[{ on := 13, ground := Ground.data }, { on := 16, ground := Ground.data }, { on := 9, ground := Ground.guard }], guard := some (9, true) }) (v := undef) rfl (by kernel_rfl) (by kernel_rfl) (by kernel_rfl) (fun _ _ _ h => h) (Or.inr ⟨by rfl, rfl⟩) hn ?_
          try simp only [Act.put, List.setIfInBounds_toArray, List.set_cons_zero, List.set_cons_succ]
          refine wpAnyH_take (i := 18) (oi := { dst := some 75, op := Op.pick (Operand.tmp 66) (Operand.tmp 74) (Operand.const (Value.bool false)), type := 4, pos := "instr.go:64", after := #[{ on := 9, ground := Ground.data }, { on := 17, ground := Ground.data }], guard := none }) (v := ?v29x30) rfl (by kernel_rfl) (by kernel_rfl) (by kernel_rfl) (fun _ _ _ h => h) (Or.inl ⟨by rfl, ?y29x30⟩) hn ?r29x30
          case y29x30 => (intro wS hS; (try go_simp); (try with_reducible rfl))
          try simp only [Act.put, List.setIfInBounds_toArray, List.set_cons_zero, List.set_cons_succ]
          refine wpAnyH_take (i := 19) (oi := { dst := some 4, op := Op.assign (Operand.tmp 75), type := 4, pos := "instr.go:64", after := #[{ on := 18, ground := Ground.data }, { on := 16, ground := Ground.chain }, { on := 0, ground := Ground.phase }, { on := 1, ground := Ground.phase }, { on := 2, ground := Ground.phase }, { on := 3, ground := Ground.phase }, { on := 4, ground := Ground.phase }, { on := 5, ground := Ground.phase }, { on := 6, ground := Ground.phase }, { on := 7, ground := Ground.phase }, { on := 8, ground := Ground.phase }, { on := 9, ground := Ground.phase }, { on := 10, ground := Ground.phase }, { on := 11, ground := Ground.phase }, { on := 12, ground := Ground.phase }, { on := 13, ground := Ground.phase }, { on := 14, ground := Ground.phase }, { on := 15, ground := Ground.phase }, { on := 16, ground := Ground.phase }, { on := 17, ground := Ground.phase }, { on := 18, ground := Ground.phase }], guard := none }) (v := ?v29x31) rfl (by kernel_rfl) (by kernel_rfl) (by kernel_rfl) (fun _ _ _ h => h) (Or.inl ⟨by rfl, ?y29x31⟩) hn ?r29x31
          case y29x31 => (intro wS hS; (try go_simp); (try with_reducible rfl))
          try simp only [Act.put, List.setIfInBounds_toArray, List.set_cons_zero, List.set_cons_succ]
          refine wpAnyH_take (i := 20) (oi := { dst := some 76, op := Op.fieldAddr 34 (Operand.tmp 1) 6, type := 0, pos := "instr.go:64", after := #[{ on := 0, ground := Ground.phase }, { on := 1, ground := Ground.phase }, { on := 2, ground := Ground.phase }, { on := 3, ground := Ground.phase }, { on := 4, ground := Ground.phase }, { on := 5, ground := Ground.phase }, { on := 6, ground := Ground.phase }, { on := 7, ground := Ground.phase }, { on := 8, ground := Ground.phase }, { on := 9, ground := Ground.phase }, { on := 10, ground := Ground.phase }, { on := 11, ground := Ground.phase }, { on := 12, ground := Ground.phase }, { on := 13, ground := Ground.phase }, { on := 14, ground := Ground.phase }, { on := 15, ground := Ground.phase }, { on := 16, ground := Ground.phase }, { on := 17, ground := Ground.phase }, { on := 18, ground := Ground.phase }, { on := 19, ground := Ground.phase }], guard := none }) (v := ?v29x32) rfl (by kernel_rfl) (by kernel_rfl) (by kernel_rfl) (fun _ _ _ h => h) (Or.inl ⟨by rfl, ?y29x32⟩) hn ?r29x32
          case y29x32 => (intro wS hS; (try go_simp); (try with_reducible rfl))
          try simp only [Act.put, List.setIfInBounds_toArray, List.set_cons_zero, List.set_cons_succ]
          refine wpAnyH_ready (rs := [21]) (by kernel_rfl) (by simp) ?_
          refine AllReadyH.cons (o := { dst := none, op := Op.store 9 (Operand.tmp 76) (Operand.const (Value.string { data := #[] })), type := 0, pos := "instr.go:64", after := #[{ on := 20, ground := Ground.data }, { on := 19, ground := Ground.chain }, { on := 0, ground := Ground.phase }, { on := 1, ground := Ground.phase }, { on := 2, ground := Ground.phase }, { on := 3, ground := Ground.phase }, { on := 4, ground := Ground.phase }, { on := 5, ground := Ground.phase }, { on := 6, ground := Ground.phase }, { on := 7, ground := Ground.phase }, { on := 8, ground := Ground.phase }, { on := 9, ground := Ground.phase }, { on := 10, ground := Ground.phase }, { on := 11, ground := Ground.phase }, { on := 12, ground := Ground.phase }, { on := 13, ground := Ground.phase }, { on := 14, ground := Ground.phase }, { on := 15, ground := Ground.phase }, { on := 16, ground := Ground.phase }, { on := 17, ground := Ground.phase }, { on := 18, ground := Ground.phase }, { on := 19, ground := Ground.phase }], guard := none }) rfl (fun K hK => ?_) AllReadyH.nil
          have z9 := cellAt hbx 9 (v := .string raw) rfl
          have f9 := frozenAt hbx 9
          go_simp
          have hbx := hp_set hbx 9 (.string ⟨#[]⟩)
          have hn : (fun w' => New w w' ∧ w'.heap[wa.heap.size]? = some (.cells #[.int .i64 11, .int .i64 ln] 66)) (wr.setCell ⟨w.heap.size, 9, none⟩ (.string ⟨#[]⟩)) := ⟨setNew hn.1 9 _, hp_other hn.2 HNE.out⟩
          refine hK.out _ _ (by first | exact hn | exact Upd.alloc hn _) (fun hn => ?_)
          clear hK K
          try simp only [Act.put, List.setIfInBounds_toArray, List.set_cons_zero, List.set_cons_succ]
          refine wpAnyH_done (by kernel_rfl) ?_ _
          refine NoPanic.normal ?_
          go_wp2_with fail
          go_meet
          exact ⟨_, (.slice al li.length cl), (.slice au (lb ty).length cu), rfl, (by have h := has_ne HBH.out; simp [ownQ, h]), hbx, hn.1, HL.out.new hn.1, HU.out.new hn.1⟩
      · -- 12
        have HS2 := hid (fun l w => HSP.out 12 l w)
        rw [spanV_12] at HS2
        have HH2 := hid (fun w => HHA.out 8 8 raw.size w)
        obtain ⟨bh, hbh⟩ : ∃ bh, Span.has 8 8 raw.size = bh := ⟨_, rfl⟩
        rw [hbh] at HH2
        have y0 : wb.cell? ⟨wa.heap.size, 0, none⟩ = some (.int .i64 12) := cellAt HI.out 0 rfl
        have y1 : wb.cell? ⟨wa.heap.size, 1, none⟩ = some (.int .i64 ln) := cellAt HI.out 1 rfl
        have z9 : wb.cell? ⟨w.heap.size, 9, none⟩ = some (.string raw) := cellAt HB.out 9 rfl
        have f9 : wb.frozen? ⟨w.heap.size, 9, none⟩ = false := frozenAt HB.out 9
        have HBH := hid hbh
        clear hbh
        cases bh with
        | true =>
          have hn : (fun w' => New w w' ∧ w'.heap[wa.heap.size]? = some (.cells #[.int .i64 12, .int .i64 ln] 66)) wb.drew := ⟨HN.out.drew, HI.out⟩
          have hbx : Box wb.drew w.heap.size ⟨p, c, k, t, i, x, y, li, n, raw, lane, ty⟩ (.slice al li.length cl) (.slice au (lb ty).length cu) := HB.out
          clear y0 y1 z9 f9
          go_wp2_with fail
          refine wp_region_noPanic ?_
          refine wp_region_held_drew (S := (fun w' => New w w' ∧ w'.heap[wa.heap.size]? = some (.cells #[.int .i64 12, .int .i64 ln] 66))) (by kernel_rfl) (by first | exact hn | exact (Upd.refl _ _).drew | exact Upd.drew (by assumption)) (fun hn => ?_)
          generalize wb.drew = wd at *
          refine wpAnyH_take (i := 0) (oi := { dst := some 57, op := Op.move (Operand.tmp 4), type := 4, pos := "instr.go:64", after := #[], guard := none }) (v := ?v30x1) rfl (by kernel_rfl) (by kernel_rfl) (by kernel_rfl) (fun _ _ _ h => h) (Or.inl ⟨by rfl, ?y30x1⟩) hn ?r30x1
          case y30x1 => (intro wS hS; (try go_simp); (try with_reducible rfl))
          try simp only [Act.put, List.setIfInBounds_toArray, List.set_cons_zero, List.set_cons_succ]
          refine wpAnyH_take (i := 1) (oi := { dst := some 58, op := Op.move (Operand.tmp 57), type := 4, pos := "instr.go:64", after := #[{ on := 0, ground := Ground.data }], guard := none }) (v := ?v30x2) rfl (by kernel_rfl) (by kernel_rfl) (by kernel_rfl) (fun _ _ _ h => h) (Or.inl ⟨by rfl, ?y30x2⟩) hn ?r30x2
          case y30x2 => (intro wS hS; (try go_simp); (try with_reducible rfl))
          try simp only [Act.put, List.setIfInBounds_toArray, List.set_cons_zero, List.set_cons_succ]
          refine wpAnyH_take (i := 2) (oi := { dst := some 59, op := Op.load 66 (Operand.tmp 3), type := 66, pos := "instr.go:64", after := #[{ on := 1, ground := Ground.guard }], guard := some (1, true) }) (v := ?v30x3) rfl (by kernel_rfl) (by kernel_rfl) (by kernel_rfl) (fun _ _ _ h => h) (Or.inl ⟨by rfl, ?y30x3⟩) hn ?r30x3
          case y30x3 => (intro wS hS; have c0 := cellAt hS.2 0 rfl; have c1 := cellAt hS.2 1 rfl; (try go_simp); (try with_reducible rfl))
          try simp only [Act.put, List.setIfInBounds_toArray, List.set_cons_zero, List.set_cons_succ]
          refine wpAnyH_take (i := 4) (oi := { dst := some 61, op := Op.fieldAddr 34 (Operand.tmp 1) 6, type := 0, pos := "instr.go:64", after := #[{ on := 1, ground := Ground.guard }], guard := some (1, true) }) (v := ?v30x4) rfl (by kernel_rfl) (by kernel_rfl) (by kernel_rfl) (fun _ _ _ h => h) (Or.inl ⟨by rfl, ?y30x4⟩) hn ?r30x4
          case y30x4 => (intro wS hS; (try go_simp); (try with_reducible rfl))
          try simp only [Act.put, List.setIfInBounds_toArray, List.set_cons_zero, List.set_cons_succ]
          refine wpAnyH_ready (rs := [3, 5]) (by kernel_rfl) (by simp) ?_
          refine AllReadyH.cons (o := { dst := some 60, op := Op.call { callee := Callee.value (Operand.func 31), args := #[Operand.tmp 59], argTypes := #[66] }, type := 70, pos := "instr.go:64", after := #[{ on := 2, ground := Ground.data }, { on := 1, ground := Ground.chain }, { on := 1, ground := Ground.guard }], guard := some (1, true) }) rfl (fun K hK => ?_) ?_
          · skip
            go_simp
            refine (HS2.out _ _).mono ?_
            rintro e wq ⟨rfl, hnq⟩
            go_wp2_with fail
            have hbx := hp1 hbx hnq
            have hn : (fun w' => New w w' ∧ w'.heap[wa.heap.size]? = some (.cells #[.int .i64 12, .int .i64 ln] 66)) wq := ⟨New.trans hn.1 hnq, hp1 hn.2 hnq⟩
            refine hK.out _ _ (by first | exact hn | exact Upd.alloc hn _) (fun hn => ?_)
            clear hK K
            try simp only [Act.put, List.setIfInBounds_toArray, List.set_cons_zero, List.set_cons_succ]
            refine wpAnyH_ready (rs := [5]) (by kernel_rfl) (by simp) ?_
            refine AllReadyH.cons (o := { dst := some 62, op := Op.load 9 (Operand.tmp 61), type := 9, pos := "instr.go:64", after := #[{ on := 4, ground := Ground.data }, { on := 1, ground := Ground.guard }], guard := some (1, true) }) rfl (fun K hK => ?_) AllReadyH.nil
            have z9 := cellAt hbx 9 (v := .string raw) rfl
            go_simp
            refine hK.out _ _ (by first | exact hn | exact Upd.alloc hn _) (fun hn => ?_)
            clear hK K
            try simp only [Act.put, List.setIfInBounds_toArray, List.set_cons_zero, List.set_cons_succ]
            refine wpAnyH_take (i := 6) (oi := { dst := some 63, op := Op.call { callee := Callee.builtin Builtin.len, args := #[Operand.tmp 62], argTypes := #[9] }, type := 3, pos := "instr.go:64", after := #[{ on := 5, ground := Ground.data }, { on := 1, ground := Ground.guard }], guard := some (1, true) }) (v := ?v30x5) rfl (by kernel_rfl) (by kernel_rfl) (by kernel_rfl) (fun _ _ _ h => h) (Or.inl ⟨by rfl, ?y30x5⟩) hn ?r30x5
            case y30x5 => (intro wS hS; (try go_simp); (try with_reducible rfl))
            try simp only [Act.put, List.setIfInBounds_toArray, List.set_cons_zero, List.set_cons_succ]
            refine wpAnyH_ready (rs := [7]) (by kernel_rfl) (by simp) ?_
            refine AllReadyH.cons (o := { dst := some 64, op := Op.call { callee := Callee.value (Operand.func 32), args := #[Operand.tmp 60, Operand.tmp 63], argTypes := #[70, 3] }, type := 4, pos := "instr.go:64", after := #[{ on := 3, ground := Ground.data }, { on := 6, ground := Ground.data }, { on := 3, ground := Ground.chain }, { on := 1, ground := Ground.guard }], guard := some (1, true) }) rfl (fun K hK => ?_) AllReadyH.nil
            go_simp
            refine (HH2.out _).mono ?_
            rintro e wr ⟨rfl, hnq⟩
            go_wp2_with fail
            have hbx := hp1 hbx hnq
            have hn : (fun w' => New w w' ∧ w'.heap[wa.heap.size]? = some (.cells #[.int .i64 12, .int .i64 ln] 66)) wr := ⟨New.trans hn.1 hnq, hp1 hn.2 hnq⟩
            refine hK.out _ _ (by first | exact hn | exact Upd.alloc hn _) (fun hn => ?_)
            clear hK K
            try simp only [Act.put, List.setIfInBounds_toArray, List.set_cons_zero, List.set_cons_succ]
            refine wpAnyH_take (i := 8) (oi := { dst := some 65, op := Op.pick (Operand.tmp 58) (Operand.tmp 64) (Operand.const (Value.bool false)), type := 4, pos := "instr.go:64", after := #[{ on := 1, ground := Ground.data }, { on := 7, ground := Ground.data }], guard := none }) (v := ?v30x6) rfl (by kernel_rfl) (by kernel_rfl) (by kernel_rfl) (fun _ _ _ h => h) (Or.inl ⟨by rfl, ?y30x6⟩) hn ?r30x6
            case y30x6 => (intro wS hS; (try go_simp); (try with_reducible rfl))
            try simp only [Act.put, List.setIfInBounds_toArray, List.set_cons_zero, List.set_cons_succ]
            refine wpAnyH_take (i := 9) (oi := { dst := some 66, op := Op.move (Operand.tmp 65), type := 4, pos := "instr.go:64", after := #[{ on := 8, ground := Ground.data }, { on := 7, ground := Ground.chain }], guard := none }) (v := ?v30x7) rfl (by kernel_rfl) (by kernel_rfl) (by kernel_rfl) (fun _ _ _ h => h) (Or.inl ⟨by rfl, ?y30x7⟩) hn ?r30x7
            case y30x7 => (intro wS hS; (try go_simp); (try with_reducible rfl))
            try simp only [Act.put, List.setIfInBounds_toArray, List.set_cons_zero, List.set_cons_succ]
            refine wpAnyH_take (i := 10) (oi := { dst := some 67, op := Op.fieldAddr 66 (Operand.tmp 3) 0, type := 0, pos := "instr.go:64", after := #[{ on := 9, ground := Ground.guard }], guard := some (9, true) }) (v := ?v30x8) rfl (by kernel_rfl) (by kernel_rfl) (by kernel_rfl) (fun _ _ _ h => h) (Or.inl ⟨by rfl, ?y30x8⟩) hn ?r30x8
            case y30x8 => (intro wS hS; (try go_simp); (try with_reducible rfl))
            try simp only [Act.put, List.setIfInBounds_toArray, List.set_cons_zero, List.set_cons_succ]
            refine wpAnyH_take (i := 11) (oi := { dst := some 68, op := Op.load 3 (Operand.tmp 67), type := 3, pos := "instr.go:64", after := #[{ on := 10, ground := Ground.data }, { on := 9, ground := Ground.guard }], guard := some (9, true) }) (v := ?v30x9) rfl (by kernel_rfl) (by kernel_rfl) (by kernel_rfl) (fun _ _ _ h => h) (Or.inl ⟨by rfl, ?y30x9⟩) hn ?r30x9
            case y30x9 => (intro wS hS; have c0 := cellAt hS.2 0 rfl; (try go_simp); (try with_reducible rfl))
            try simp only [Act.put, List.setIfInBounds_toArray, List.set_cons_zero, List.set_cons_succ]
            refine wpAnyH_take (i := 12) (oi := { dst := some 69, op := Op.binOp BinOp.neq 3 (Operand.tmp 68) (Operand.const (Value.int IntKind.i64 14)) 3, type := 4, pos := "instr.go:64", after := #[{ on := 11, ground := Ground.data }, { on := 9, ground := Ground.guard }], guard := some (9, true) }) (v := ?v30x10) rfl (by kernel_rfl) (by kernel_rfl) (by kernel_rfl) (fun _ _ _ h => h) (Or.inl ⟨by rfl, ?y30x10⟩) hn ?r30x10
            case y30x10 => (intro wS hS; (try go_simp); (try with_reducible rfl))
            try simp only [Act.put, List.setIfInBounds_toArray, List.set_cons_zero, List.set_cons_succ]
            refine wpAnyH_take (i := 13) (oi := { dst := some 70, op := Op.move (Operand.tmp 69), type := 4, pos := "instr.go:64", after := #[{ on := 12, ground := Ground.data }, { on := 9, ground := Ground.chain }, { on := 9, ground := Ground.guard }], guard := some (9, true) }) (v := ?v30x11) rfl (by kernel_rfl) (by kernel_rfl) (by kernel_rfl) (fun _ _ _ h => h) (Or.inl ⟨by rfl, ?y30x11⟩) hn ?r30x11
            case y30x11 => (intro wS hS; (try go_simp); (try with_reducible rfl))
            try simp only [Act.put, List.setIfInBounds_toArray, List.set_cons_zero, List.set_cons_succ]
            refine wpAnyH_take (i := 14) (oi := { dst := some 71, op := Op.fieldAddr 34 (Operand.tmp 1) 6, type := 0, pos := "instr.go:64", after := #[{ on := 13, ground := Ground.guard }], guard := some (13, false) }) (v := undef) rfl (by kernel_rfl) (by kernel_rfl) (by kernel_rfl) (fun _ _ _ h => h) (Or.inr ⟨by rfl, rfl⟩) hn ?_
            try simp only [Act.put, List.setIfInBounds_toArray, List.set_cons_zero, List.set_cons_succ]
            refine wpAnyH_take (i := 15) (oi := { dst := some 72, op := Op.load 9 (Operand.tmp 71), type := 9, pos := "instr.go:64", after := #[{ on := 14, ground := Ground.data }, { on := 13, ground := Ground.guard }], guard := some (13, false) }) (v := undef) rfl (by kernel_rfl) (by kernel_rfl) (by kernel_rfl) (fun _ _ _ h => h) (Or.inr ⟨by rfl, rfl⟩) hn ?_
            try simp only [Act.put, List.setIfInBounds_toArray, List.set_cons_zero, List.set_cons_succ]
            refine wpAnyH_take (i := 16) (oi := { dst := some 73, op := Op.call { callee := Callee.value (Operand.func 33), args := #[Operand.tmp 72], argTypes := #[9] }, type := 4, pos := "instr.go:64", after := #[{ on := 15, ground := Ground.data }, { on := 13, ground := Ground.chain }, { on := 13, ground := Ground.guard }], guard := some (13, false) }) (v := undef) rfl (by kernel_rfl) (by kernel_rfl) (by kernel_rfl) (fun _ _ _ h => h) (Or.inr ⟨by rfl, rfl⟩) hn ?_
            try simp only [Act.put, List.setIfInBounds_toArray, List.set_cons_zero, List.set_cons_succ]
            refine wpAnyH_take (i := 17) (oi := { dst := some 74, op := Op.pick (Operand.tmp 70) (Operand.const (Value.bool true)) (Operand.tmp 73), type := 4, pos := "instr.go:64", after := #[{ on := 13, ground := Ground.data }, { on := 16, ground := Ground.data }, { on := 9, ground := Ground.guard }], guard := some (9, true) }) (v := ?v30x15) rfl (by kernel_rfl) (by kernel_rfl) (by kernel_rfl) (fun _ _ _ h => h) (Or.inl ⟨by rfl, ?y30x15⟩) hn ?r30x15
            case y30x15 => (intro wS hS; (try go_simp); (try with_reducible rfl))
            try simp only [Act.put, List.setIfInBounds_toArray, List.set_cons_zero, List.set_cons_succ]
            refine wpAnyH_take (i := 18) (oi := { dst := some 75, op := Op.pick (Operand.tmp 66) (Operand.tmp 74) (Operand.const (Value.bool false)), type := 4, pos := "instr.go:64", after := #[{ on := 9, ground := Ground.data }, { on := 17, ground := Ground.data }], guard := none }) (v := ?v30x16) rfl (by kernel_rfl) (by kernel_rfl) (by kernel_rfl) (fun _ _ _ h => h) (Or.inl ⟨by rfl, ?y30x16⟩) hn ?r30x16
            case y30x16 => (intro wS hS; (try go_simp); (try with_reducible rfl))
            try simp only [Act.put, List.setIfInBounds_toArray, List.set_cons_zero, List.set_cons_succ]
            refine wpAnyH_take (i := 19) (oi := { dst := some 4, op := Op.assign (Operand.tmp 75), type := 4, pos := "instr.go:64", after := #[{ on := 18, ground := Ground.data }, { on := 16, ground := Ground.chain }, { on := 0, ground := Ground.phase }, { on := 1, ground := Ground.phase }, { on := 2, ground := Ground.phase }, { on := 3, ground := Ground.phase }, { on := 4, ground := Ground.phase }, { on := 5, ground := Ground.phase }, { on := 6, ground := Ground.phase }, { on := 7, ground := Ground.phase }, { on := 8, ground := Ground.phase }, { on := 9, ground := Ground.phase }, { on := 10, ground := Ground.phase }, { on := 11, ground := Ground.phase }, { on := 12, ground := Ground.phase }, { on := 13, ground := Ground.phase }, { on := 14, ground := Ground.phase }, { on := 15, ground := Ground.phase }, { on := 16, ground := Ground.phase }, { on := 17, ground := Ground.phase }, { on := 18, ground := Ground.phase }], guard := none }) (v := ?v30x17) rfl (by kernel_rfl) (by kernel_rfl) (by kernel_rfl) (fun _ _ _ h => h) (Or.inl ⟨by rfl, ?y30x17⟩) hn ?r30x17
            case y30x17 => (intro wS hS; (try go_simp); (try with_reducible rfl))
            try simp only [Act.put, List.setIfInBounds_toArray, List.set_cons_zero, List.set_cons_succ]
            refine wpAnyH_take (i := 20) (oi := { dst := some 76, op := Op.fieldAddr 34 (Operand.tmp 1) 6, type := 0, pos := "instr.go:64", after := #[{ on := 0, ground := Ground.phase }, { on := 1, ground := Ground.phase }, { on := 2, ground := Ground.phase }, { on := 3, ground := Ground.phase }, { on := 4, ground := Ground.phase }, { on := 5, ground := Ground.phase }, { on := 6, ground := Ground.phase }, { on := 7, ground := Ground.phase }, { on := 8, ground := Ground.phase }, { on := 9, ground := Ground.phase }, { on := 10, ground := Ground.phase }, { on := 11, ground := Ground.phase }, { on := 12, ground := Ground.phase }, { on := 13, ground := Ground.phase }, { on := 14, ground := Ground.phase }, { on := 15, ground := Ground.phase }, { on := 16, ground := Ground.phase }, { on := 17, ground := Ground.phase }, { on := 18, ground := Ground.phase }, { on := 19, ground := Ground.phase }], guard := none }) (v := ?v30x18) rfl (by kernel_rfl) (by kernel_rfl) (by kernel_rfl) (fun _ _ _ h => h) (Or.inl ⟨by rfl, ?y30x18⟩) hn ?r30x18
            case y30x18 => (intro wS hS; (try go_simp); (try with_reducible rfl))
            try simp only [Act.put, List.setIfInBounds_toArray, List.set_cons_zero, List.set_cons_succ]
            refine wpAnyH_ready (rs := [21]) (by kernel_rfl) (by simp) ?_
            refine AllReadyH.cons (o := { dst := none, op := Op.store 9 (Operand.tmp 76) (Operand.const (Value.string { data := #[] })), type := 0, pos := "instr.go:64", after := #[{ on := 20, ground := Ground.data }, { on := 19, ground := Ground.chain }, { on := 0, ground := Ground.phase }, { on := 1, ground := Ground.phase }, { on := 2, ground := Ground.phase }, { on := 3, ground := Ground.phase }, { on := 4, ground := Ground.phase }, { on := 5, ground := Ground.phase }, { on := 6, ground := Ground.phase }, { on := 7, ground := Ground.phase }, { on := 8, ground := Ground.phase }, { on := 9, ground := Ground.phase }, { on := 10, ground := Ground.phase }, { on := 11, ground := Ground.phase }, { on := 12, ground := Ground.phase }, { on := 13, ground := Ground.phase }, { on := 14, ground := Ground.phase }, { on := 15, ground := Ground.phase }, { on := 16, ground := Ground.phase }, { on := 17, ground := Ground.phase }, { on := 18, ground := Ground.phase }, { on := 19, ground := Ground.phase }], guard := none }) rfl (fun K hK => ?_) AllReadyH.nil
            have z9 := cellAt hbx 9 (v := .string raw) rfl
            have f9 := frozenAt hbx 9
            go_simp
            have hbx := hp_set hbx 9 (.string ⟨#[]⟩)
            have hn : (fun w' => New w w' ∧ w'.heap[wa.heap.size]? = some (.cells #[.int .i64 12, .int .i64 ln] 66)) (wr.setCell ⟨w.heap.size, 9, none⟩ (.string ⟨#[]⟩)) := ⟨setNew hn.1 9 _, hp_other hn.2 HNE.out⟩
            refine hK.out _ _ (by first | exact hn | exact Upd.alloc hn _) (fun hn => ?_)
            clear hK K
            try simp only [Act.put, List.setIfInBounds_toArray, List.set_cons_zero, List.set_cons_succ]
            refine wpAnyH_done (by kernel_rfl) ?_ _
            refine NoPanic.normal ?_
            go_wp2_with fail
            go_meet
            exact ⟨_, (.slice al li.length cl), (.slice au (lb ty).length cu), rfl, (by have h : raw.size = 8 := (by have := has_eq HBH.out; omega); simp [ownQ, h]), hbx, hn.1, HL.out.new hn.1, HU.out.new hn.1⟩
          refine AllReadyH.cons (o := { dst := some 62, op := Op.load 9 (Operand.tmp 61), type := 9, pos := "instr.go:64", after := #[{ on := 4, ground := Ground.data }, { on := 1, ground := Ground.guard }], guard := some (1, true) }) rfl (fun K hK => ?_) AllReadyH.nil
          have z9 := cellAt hbx 9 (v := .string raw) rfl
          go_simp
          refine hK.out _ _ (by first | exact hn | exact Upd.alloc hn _) (fun hn => ?_)
          clear hK K
          try simp only [Act.put, List.setIfInBounds_toArray, List.set_cons_zero, List.set_cons_succ]
          refine wpAnyH_take (i := 6) (oi := { dst := some 63, op := Op.call { callee := Callee.builtin Builtin.len, args := #[Operand.tmp 62], argTypes := #[9] }, type := 3, pos := "instr.go:64", after := #[{ on := 5, ground := Ground.data }, { on := 1, ground := Ground.guard }], guard := some (1, true) }) (v := ?v30x19) rfl (by kernel_rfl) (by kernel_rfl) (by kernel_rfl) (fun _ _ _ h => h) (Or.inl ⟨by rfl, ?y30x19⟩) hn ?r30x19
          case y30x19 => (intro wS hS; (try go_simp); (try with_reducible rfl))
          try simp only [Act.put, List.setIfInBounds_toArray, List.set_cons_zero, List.set_cons_succ]
          refine wpAnyH_ready (rs := [3]) (by kernel_rfl) (by simp) ?_
          refine AllReadyH.cons (o := { dst := some 60, op := Op.call { callee := Callee.value (Operand.func 31), args := #[Operand.tmp 59], argTypes := #[66] }, type := 70, pos := "instr.go:64", after := #[{ on := 2, ground := Ground.data }, { on := 1, ground := Ground.chain }, { on := 1, ground := Ground.guard }], guard := some (1, true) }) rfl (fun K hK => ?_) AllReadyH.nil
          go_simp
          refine (HS2.out _ _).mono ?_
          rintro e wq ⟨rfl, hnq⟩
          go_wp2_with fail
          have hbx := hp1 hbx hnq
          have hn : (fun w' => New w w' ∧ w'.heap[wa.heap.size]? = some (.cells #[.int .i64 12, .int .i64 ln] 66)) wq := ⟨New.trans hn.1 hnq, hp1 hn.2 hnq⟩
          refine hK.out _ _ (by first | exact hn | exact Upd.alloc hn _) (fun hn => ?_)
          clear hK K
          try simp only [Act.put, List.setIfInBounds_toArray, List.set_cons_zero, List.set_cons_succ]
          refine wpAnyH_ready (rs := [7]) (by kernel_rfl) (by simp) ?_
          refine AllReadyH.cons (o := { dst := some 64, op := Op.call { callee := Callee.value (Operand.func 32), args := #[Operand.tmp 60, Operand.tmp 63], argTypes := #[70, 3] }, type := 4, pos := "instr.go:64", after := #[{ on := 3, ground := Ground.data }, { on := 6, ground := Ground.data }, { on := 3, ground := Ground.chain }, { on := 1, ground := Ground.guard }], guard := some (1, true) }) rfl (fun K hK => ?_) AllReadyH.nil
          go_simp
          refine (HH2.out _).mono ?_
          rintro e wr ⟨rfl, hnq⟩
          go_wp2_with fail
          have hbx := hp1 hbx hnq
          have hn : (fun w' => New w w' ∧ w'.heap[wa.heap.size]? = some (.cells #[.int .i64 12, .int .i64 ln] 66)) wr := ⟨New.trans hn.1 hnq, hp1 hn.2 hnq⟩
          refine hK.out _ _ (by first | exact hn | exact Upd.alloc hn _) (fun hn => ?_)
          clear hK K
          try simp only [Act.put, List.setIfInBounds_toArray, List.set_cons_zero, List.set_cons_succ]
          refine wpAnyH_take (i := 8) (oi := { dst := some 65, op := Op.pick (Operand.tmp 58) (Operand.tmp 64) (Operand.const (Value.bool false)), type := 4, pos := "instr.go:64", after := #[{ on := 1, ground := Ground.data }, { on := 7, ground := Ground.data }], guard := none }) (v := ?v30x20) rfl (by kernel_rfl) (by kernel_rfl) (by kernel_rfl) (fun _ _ _ h => h) (Or.inl ⟨by rfl, ?y30x20⟩) hn ?r30x20
          case y30x20 => (intro wS hS; (try go_simp); (try with_reducible rfl))
          try simp only [Act.put, List.setIfInBounds_toArray, List.set_cons_zero, List.set_cons_succ]
          refine wpAnyH_take (i := 9) (oi := { dst := some 66, op := Op.move (Operand.tmp 65), type := 4, pos := "instr.go:64", after := #[{ on := 8, ground := Ground.data }, { on := 7, ground := Ground.chain }], guard := none }) (v := ?v30x21) rfl (by kernel_rfl) (by kernel_rfl) (by kernel_rfl) (fun _ _ _ h => h) (Or.inl ⟨by rfl, ?y30x21⟩) hn ?r30x21
          case y30x21 => (intro wS hS; (try go_simp); (try with_reducible rfl))
          try simp only [Act.put, List.setIfInBounds_toArray, List.set_cons_zero, List.set_cons_succ]
          refine wpAnyH_take (i := 10) (oi := { dst := some 67, op := Op.fieldAddr 66 (Operand.tmp 3) 0, type := 0, pos := "instr.go:64", after := #[{ on := 9, ground := Ground.guard }], guard := some (9, true) }) (v := ?v30x22) rfl (by kernel_rfl) (by kernel_rfl) (by kernel_rfl) (fun _ _ _ h => h) (Or.inl ⟨by rfl, ?y30x22⟩) hn ?r30x22
          case y30x22 => (intro wS hS; (try go_simp); (try with_reducible rfl))
          try simp only [Act.put, List.setIfInBounds_toArray, List.set_cons_zero, List.set_cons_succ]
          refine wpAnyH_take (i := 11) (oi := { dst := some 68, op := Op.load 3 (Operand.tmp 67), type := 3, pos := "instr.go:64", after := #[{ on := 10, ground := Ground.data }, { on := 9, ground := Ground.guard }], guard := some (9, true) }) (v := ?v30x23) rfl (by kernel_rfl) (by kernel_rfl) (by kernel_rfl) (fun _ _ _ h => h) (Or.inl ⟨by rfl, ?y30x23⟩) hn ?r30x23
          case y30x23 => (intro wS hS; have c0 := cellAt hS.2 0 rfl; (try go_simp); (try with_reducible rfl))
          try simp only [Act.put, List.setIfInBounds_toArray, List.set_cons_zero, List.set_cons_succ]
          refine wpAnyH_take (i := 12) (oi := { dst := some 69, op := Op.binOp BinOp.neq 3 (Operand.tmp 68) (Operand.const (Value.int IntKind.i64 14)) 3, type := 4, pos := "instr.go:64", after := #[{ on := 11, ground := Ground.data }, { on := 9, ground := Ground.guard }], guard := some (9, true) }) (v := ?v30x24) rfl (by kernel_rfl) (by kernel_rfl) (by kernel_rfl) (fun _ _ _ h => h) (Or.inl ⟨by rfl, ?y30x24⟩) hn ?r30x24
          case y30x24 => (intro wS hS; (try go_simp); (try with_reducible rfl))
          try simp only [Act.put, List.setIfInBounds_toArray, List.set_cons_zero, List.set_cons_succ]
          refine wpAnyH_take (i := 13) (oi := { dst := some 70, op := Op.move (Operand.tmp 69), type := 4, pos := "instr.go:64", after := #[{ on := 12, ground := Ground.data }, { on := 9, ground := Ground.chain }, { on := 9, ground := Ground.guard }], guard := some (9, true) }) (v := ?v30x25) rfl (by kernel_rfl) (by kernel_rfl) (by kernel_rfl) (fun _ _ _ h => h) (Or.inl ⟨by rfl, ?y30x25⟩) hn ?r30x25
          case y30x25 => (intro wS hS; (try go_simp); (try with_reducible rfl))
          try simp only [Act.put, List.setIfInBounds_toArray, List.set_cons_zero, List.set_cons_succ]
          refine wpAnyH_take (i := 14) (oi := { dst := some 71, op := Op.fieldAddr 34 (Operand.tmp 1) 6, type := 0, pos := "instr.go:64", after := #[{ on := 13, ground := Ground.guard }], guard := some (13, false) }) (v := undef) rfl (by kernel_rfl) (by kernel_rfl) (by kernel_rfl) (fun _ _ _ h => h) (Or.inr ⟨by rfl, rfl⟩) hn ?_
          try simp only [Act.put, List.setIfInBounds_toArray, List.set_cons_zero, List.set_cons_succ]
          refine wpAnyH_take (i := 15) (oi := { dst := some 72, op := Op.load 9 (Operand.tmp 71), type := 9, pos := "instr.go:64", after := #[{ on := 14, ground := Ground.data }, { on := 13, ground := Ground.guard }], guard := some (13, false) }) (v := undef) rfl (by kernel_rfl) (by kernel_rfl) (by kernel_rfl) (fun _ _ _ h => h) (Or.inr ⟨by rfl, rfl⟩) hn ?_
          try simp only [Act.put, List.setIfInBounds_toArray, List.set_cons_zero, List.set_cons_succ]
          refine wpAnyH_take (i := 16) (oi := { dst := some 73, op := Op.call { callee := Callee.value (Operand.func 33), args := #[Operand.tmp 72], argTypes := #[9] }, type := 4, pos := "instr.go:64", after := #[{ on := 15, ground := Ground.data }, { on := 13, ground := Ground.chain }, { on := 13, ground := Ground.guard }], guard := some (13, false) }) (v := undef) rfl (by kernel_rfl) (by kernel_rfl) (by kernel_rfl) (fun _ _ _ h => h) (Or.inr ⟨by rfl, rfl⟩) hn ?_
          try simp only [Act.put, List.setIfInBounds_toArray, List.set_cons_zero, List.set_cons_succ]
          refine wpAnyH_take (i := 17) (oi := { dst := some 74, op := Op.pick (Operand.tmp 70) (Operand.const (Value.bool true)) (Operand.tmp 73), type := 4, pos := "instr.go:64", after := #[{ on := 13, ground := Ground.data }, { on := 16, ground := Ground.data }, { on := 9, ground := Ground.guard }], guard := some (9, true) }) (v := ?v30x29) rfl (by kernel_rfl) (by kernel_rfl) (by kernel_rfl) (fun _ _ _ h => h) (Or.inl ⟨by rfl, ?y30x29⟩) hn ?r30x29
          case y30x29 => (intro wS hS; (try go_simp); (try with_reducible rfl))
          try simp only [Act.put, List.setIfInBounds_toArray, List.set_cons_zero, List.set_cons_succ]
          refine wpAnyH_take (i := 18) (oi := { dst := some 75, op := Op.pick (Operand.tmp 66) (Operand.tmp 74) (Operand.const (Value.bool false)), type := 4, pos := "instr.go:64", after := #[{ on := 9, ground := Ground.data }, { on := 17, ground := Ground.data }], guard := none }) (v := ?v30x30) rfl (by kernel_rfl) (by kernel_rfl) (by kernel_rfl) (fun _ _ _ h => h) (Or.inl ⟨by rfl, ?y30x30⟩) hn ?r30x30
          case y30x30 => (intro wS hS; (try go_simp); (try with_reducible rfl))
          try simp only [Act.put, List.setIfInBounds_toArray, List.set_cons_zero, List.set_cons_succ]
          refine wpAnyH_take (i := 19) (oi := { dst := some 4, op := Op.assign (Operand.tmp 75), type := 4, pos := "instr.go:64", after := #[{ on := 18, ground := Ground.data }, { on := 16, ground := Ground.chain }, { on := 0, ground := Ground.phase }, { on := 1, ground := Ground.phase }, { on := 2, ground := Ground.phase }, { on := 3, ground := Ground.phase }, { on := 4, ground := Ground.phase }, { on := 5, ground := Ground.phase }, { on := 6, ground := Ground.phase }, { on := 7, ground := Ground.phase }, { on := 8, ground := Ground.phase }, { on := 9, ground := Ground.phase }, { on := 10, ground := Ground.phase }, { on := 11, ground := Ground.phase }, { on := 12, ground := Ground.phase }, { on := 13, ground := Ground.phase }, { on := 14, ground := Ground.phase }, { on := 15, ground := Ground.phase }, { on := 16, ground := Ground.phase }, { on := 17, ground := Ground.phase }, { on := 18, ground := Ground.phase }], guard := none }) (v := ?v30x31) rfl (by kernel_rfl) (by kernel_rfl) (by kernel_rfl) (fun _ _ _ h => h) (Or.inl ⟨by rfl, ?y30x31⟩) hn ?r30x31
          case y30x31 => (intro wS hS; (try go_simp); (try with_reducible rfl))
          try simp only [Act.put, List.setIfInBounds_toArray, List.set_cons_zero, List.set_cons_succ]
          refine wpAnyH_take (i := 20) (oi := { dst := some 76, op := Op.fieldAddr 34 (Operand.tmp 1) 6, type := 0, pos := "instr.go:64", after := #[{ on := 0, ground := Ground.phase }, { on := 1, ground := Ground.phase }, { on := 2, ground := Ground.phase }, { on := 3, ground := Ground.phase }, { on := 4, ground := Ground.phase }, { on := 5, ground := Ground.phase }, { on := 6, ground := Ground.phase }, { on := 7, ground := Ground.phase }, { on := 8, ground := Ground.phase }, { on := 9, ground := Ground.phase }, { on := 10, ground := Ground.phase }, { on := 11, ground := Ground.phase }, { on := 12, ground := Ground.phase }, { on := 13, ground := Ground.phase }, { on := 14, ground := Ground.phase }, { on := 15, ground := Ground.phase }, { on := 16, ground := Ground.phase }, { on := 17, ground := Ground.phase }, { on := 18, ground := Ground.phase }, { on := 19, ground := Ground.phase }], guard := none }) (v := ?v30x32) rfl (by kernel_rfl) (by kernel_rfl) (by kernel_rfl) (fun _ _ _ h => h) (Or.inl ⟨by rfl, ?y30x32⟩) hn ?r30x32
          case y30x32 => (intro wS hS; (try go_simp); (try with_reducible rfl))
          try simp only [Act.put, List.setIfInBounds_toArray, List.set_cons_zero, List.set_cons_succ]
          refine wpAnyH_ready (rs := [21]) (by kernel_rfl) (by simp) ?_
          refine AllReadyH.cons (o := { dst := none, op := Op.store 9 (Operand.tmp 76) (Operand.const (Value.string { data := #[] })), type := 0, pos := "instr.go:64", after := #[{ on := 20, ground := Ground.data }, { on := 19, ground := Ground.chain }, { on := 0, ground := Ground.phase }, { on := 1, ground := Ground.phase }, { on := 2, ground := Ground.phase }, { on := 3, ground := Ground.phase }, { on := 4, ground := Ground.phase }, { on := 5, ground := Ground.phase }, { on := 6, ground := Ground.phase }, { on := 7, ground := Ground.phase }, { on := 8, ground := Ground.phase }, { on := 9, ground := Ground.phase }, { on := 10, ground := Ground.phase }, { on := 11, ground := Ground.phase }, { on := 12, ground := Ground.phase }, { on := 13, ground := Ground.phase }, { on := 14, ground := Ground.phase }, { on := 15, ground := Ground.phase }, { on := 16, ground := Ground.phase }, { on := 17, ground := Ground.phase }, { on := 18, ground := Ground.phase }, { on := 19, ground := Ground.phase }], guard := none }) rfl (fun K hK => ?_) AllReadyH.nil
          have z9 := cellAt hbx 9 (v := .string raw) rfl
          have f9 := frozenAt hbx 9
          go_simp
          have hbx := hp_set hbx 9 (.string ⟨#[]⟩)
          have hn : (fun w' => New w w' ∧ w'.heap[wa.heap.size]? = some (.cells #[.int .i64 12, .int .i64 ln] 66)) (wr.setCell ⟨w.heap.size, 9, none⟩ (.string ⟨#[]⟩)) := ⟨setNew hn.1 9 _, hp_other hn.2 HNE.out⟩
          refine hK.out _ _ (by first | exact hn | exact Upd.alloc hn _) (fun hn => ?_)
          clear hK K
          try simp only [Act.put, List.setIfInBounds_toArray, List.set_cons_zero, List.set_cons_succ]
          refine wpAnyH_done (by kernel_rfl) ?_ _
          refine NoPanic.normal ?_
          go_wp2_with fail
          go_meet
          exact ⟨_, (.slice al li.length cl), (.slice au (lb ty).length cu), rfl, (by have h : raw.size = 8 := (by have := has_eq HBH.out; omega); simp [ownQ, h]), hbx, hn.1, HL.out.new hn.1, HU.out.new hn.1⟩
        | false =>
          have hn : (fun w' => New w w' ∧ w'.heap[wa.heap.size]? = some (.cells #[.int .i64 12, .int .i64 ln] 66)) wb.drew := ⟨HN.out.drew, HI.out⟩
          have hbx : Box wb.drew w.heap.size ⟨p, c, k, t, i, x, y, li, n, raw, lane, ty⟩ (.slice al li.length cl) (.slice au (lb ty).length cu) := HB.out
          clear y0 y1 z9 f9
          go_wp2_with fail
          refine wp_region_noPanic ?_
          refine wp_region_held_drew (S := (fun w' => New w w' ∧ w'.heap[wa.heap.size]? = some (.cells #[.int .i64 12, .int .i64 ln] 66))) (by kernel_rfl) (by first | exact hn | exact (Upd.refl _ _).drew | exact Upd.drew (by assumption)) (fun hn => ?_)
          generalize wb.drew = wd at *
          refine wpAnyH_take (i := 0) (oi := { dst := some 57, op := Op.move (Operand.tmp 4), type := 4, pos := "instr.go:64", after := #[], guard := none }) (v := ?v31x1) rfl (by kernel_rfl) (by kernel_rfl) (by kernel_rfl) (fun _ _ _ h => h) (Or.inl ⟨by rfl, ?y31x1⟩) hn ?r31x1
          case y31x1 => (intro wS hS; (try go_simp); (try with_reducible rfl))
          try simp only [Act.put, List.setIfInBounds_toArray, List.set_cons_zero, List.set_cons_succ]
          refine wpAnyH_take (i := 1) (oi := { dst := some 58, op := Op.move (Operand.tmp 57), type := 4, pos := "instr.go:64", after := #[{ on := 0, ground := Ground.data }], guard := none }) (v := ?v31x2) rfl (by kernel_rfl) (by kernel_rfl) (by kernel_rfl) (fun _ _ _ h => h) (Or.inl ⟨by rfl, ?y31x2⟩) hn ?r31x2
          case y31x2 => (intro wS hS; (try go_simp); (try with_reducible rfl))
          try simp only [Act.put, List.setIfInBounds_toArray, List.set_cons_zero, List.set_cons_succ]
          refine wpAnyH_take (i := 2) (oi := { dst := some 59, op := Op.load 66 (Operand.tmp 3), type := 66, pos := "instr.go:64", after := #[{ on := 1, ground := Ground.guard }], guard := some (1, true) }) (v := ?v31x3) rfl (by kernel_rfl) (by kernel_rfl) (by kernel_rfl) (fun _ _ _ h => h) (Or.inl ⟨by rfl, ?y31x3⟩) hn ?r31x3
          case y31x3 => (intro wS hS; have c0 := cellAt hS.2 0 rfl; have c1 := cellAt hS.2 1 rfl; (try go_simp); (try with_reducible rfl))
          try simp only [Act.put, List.setIfInBounds_toArray, List.set_cons_zero, List.set_cons_succ]
          refine wpAnyH_take (i := 4) (oi := { dst := some 61, op := Op.fieldAddr 34 (Operand.tmp 1) 6, type := 0, pos := "instr.go:64", after := #[{ on := 1, ground := Ground.guard }], guard := some (1, true) }) (v := ?v31x4) rfl (by kernel_rfl) (by kernel_rfl) (by kernel_rfl) (fun _ _ _ h => h) (Or.inl ⟨by rfl, ?y31x4⟩) hn ?r31x4
          case y31x4 => (intro wS hS; (try go_simp); (try with_reducible rfl))
          try simp only [Act.put, List.setIfInBounds_toArray, List.set_cons_zero, List.set_cons_succ]
          refine wpAnyH_ready (rs := [3, 5]) (by kernel_rfl) (by simp) ?_
          refine AllReadyH.cons (o := { dst := some 60, op := Op.call { callee := Callee.value (Operand.func 31), args := #[Operand.tmp 59], argTypes := #[66] }, type := 70, pos := "instr.go:64", after := #[{ on := 2, ground := Ground.data }, { on := 1, ground := Ground.chain }, { on := 1, ground := Ground.guard }], guard := some (1, true) }) rfl (fun K hK => ?_) ?_
          · skip
            go_simp
            refine (HS2.out _ _).mono ?_
            rintro e wq ⟨rfl, hnq⟩
            go_wp2_with fail
            have hbx := hp1 hbx hnq
            have hn : (fun w' => New w w' ∧ w'.heap[wa.heap.size]? = some (.cells #[.int .i64 12, .int .i64 ln] 66)) wq := ⟨New.trans hn.1 hnq, hp1 hn.2 hnq⟩
            refine hK.out _ _ (by first | exact hn | exact Upd.alloc hn _) (fun hn => ?_)
            clear hK K
            try simp only [Act.put, List.setIfInBounds_toArray, List.set_cons_zero, List.set_cons_succ]
            refine wpAnyH_ready (rs := [5]) (by kernel_rfl) (by simp) ?_
            refine AllReadyH.cons (o := { dst := some 62, op := Op.load 9 (Operand.tmp 61), type := 9, pos := "instr.go:64", after := #[{ on := 4, ground := Ground.data }, { on := 1, ground := Ground.guard }], guard := some (1, true) }) rfl (fun K hK => ?_) AllReadyH.nil
            have z9 := cellAt hbx 9 (v := .string raw) rfl
            go_simp
            refine hK.out _ _ (by first | exact hn | exact Upd.alloc hn _) (fun hn => ?_)
            clear hK K
            try simp only [Act.put, List.setIfInBounds_toArray, List.set_cons_zero, List.set_cons_succ]
            refine wpAnyH_take (i := 6) (oi := { dst := some 63, op := Op.call { callee := Callee.builtin Builtin.len, args := #[Operand.tmp 62], argTypes := #[9] }, type := 3, pos := "instr.go:64", after := #[{ on := 5, ground := Ground.data }, { on := 1, ground := Ground.guard }], guard := some (1, true) }) (v := ?v31x5) rfl (by kernel_rfl) (by kernel_rfl) (by kernel_rfl) (fun _ _ _ h => h) (Or.inl ⟨by rfl, ?y31x5⟩) hn ?r31x5
            case y31x5 => (intro wS hS; (try go_simp); (try with_reducible rfl))
            try simp only [Act.put, List.setIfInBounds_toArray, List.set_cons_zero, List.set_cons_succ]
            refine wpAnyH_ready (rs := [7]) (by kernel_rfl) (by simp) ?_
            refine AllReadyH.cons (o := { dst := some 64, op := Op.call { callee := Callee.value (Operand.func 32), args := #[Operand.tmp 60, Operand.tmp 63], argTypes := #[70, 3] }, type := 4, pos := "instr.go:64", after := #[{ on := 3, ground := Ground.data }, { on := 6, ground := Ground.data }, { on := 3, ground := Ground.chain }, { on := 1, ground := Ground.guard }], guard := some (1, true) }) rfl (fun K hK => ?_) AllReadyH.nil
            go_simp
            refine (HH2.out _).mono ?_
            rintro e wr ⟨rfl, hnq⟩
            go_wp2_with fail
            have hbx := hp1 hbx hnq
            have hn : (fun w' => New w w' ∧ w'.heap[wa.heap.size]? = some (.cells #[.int .i64 12, .int .i64 ln] 66)) wr := ⟨New.trans hn.1 hnq, hp1 hn.2 hnq⟩
            refine hK.out _ _ (by first | exact hn | exact Upd.alloc hn _) (fun hn => ?_)
            clear hK K
            try simp only [Act.put, List.setIfInBounds_toArray, List.set_cons_zero, List.set_cons_succ]
            refine wpAnyH_take (i := 8) (oi := { dst := some 65, op := Op.pick (Operand.tmp 58) (Operand.tmp 64) (Operand.const (Value.bool false)), type := 4, pos := "instr.go:64", after := #[{ on := 1, ground := Ground.data }, { on := 7, ground := Ground.data }], guard := none }) (v := ?v31x6) rfl (by kernel_rfl) (by kernel_rfl) (by kernel_rfl) (fun _ _ _ h => h) (Or.inl ⟨by rfl, ?y31x6⟩) hn ?r31x6
            case y31x6 => (intro wS hS; (try go_simp); (try with_reducible rfl))
            try simp only [Act.put, List.setIfInBounds_toArray, List.set_cons_zero, List.set_cons_succ]
            refine wpAnyH_take (i := 9) (oi := { dst := some 66, op := Op.move (Operand.tmp 65), type := 4, pos := "instr.go:64", after := #[{ on := 8, ground := Ground.data }, { on := 7, ground := Ground.chain }], guard := none }) (v := ?v31x7) rfl (by kernel_rfl) (by kernel_rfl) (by kernel_rfl) (fun _ _ _ h => h) (Or.inl ⟨by rfl, ?y31x7⟩) hn ?r31x7
            case y31x7 => (intro wS hS; (try go_simp); (try with_reducible rfl))
            try simp only [Act.put, List.setIfInBounds_toArray, List.set_cons_zero, List.set_cons_succ]
            refine wpAnyH_take (i := 10) (oi := { dst := some 67, op := Op.fieldAddr 66 (Operand.tmp 3) 0, type := 0, pos := "instr.go:64", after := #[{ on := 9, ground := Ground.guard }], guard := some (9, true) }) (v := undef) rfl (by kernel_rfl) (by kernel_rfl) (by kernel_rfl) (fun _ _ _ h => h) (Or.inr ⟨by rfl, rfl⟩) hn ?_
            try simp only [Act.put, List.setIfInBounds_toArray, List.set_cons_zero, List.set_cons_succ]
            refine wpAnyH_take (i := 11) (oi := { dst := some 68, op := Op.load 3 (Operand.tmp 67), type := 3, pos := "instr.go:64", after := #[{ on := 10, ground := Ground.data }, { on := 9, ground := Ground.guard }], guard := some (9, true) }) (v := undef) rfl (by kernel_rfl) (by kernel_rfl) (by kernel_rfl) (fun _ _ _ h => h) (Or.inr ⟨by rfl, rfl⟩) hn ?_
            try simp only [Act.put, List.setIfInBounds_toArray, List.set_cons_zero, List.set_cons_succ]
            refine wpAnyH_take (i := 12) (oi := { dst := some 69, op := Op.binOp BinOp.neq 3 (Operand.tmp 68) (Operand.const (Value.int IntKind.i64 14)) 3, type := 4, pos := "instr.go:64", after := #[{ on := 11, ground := Ground.data }, { on := 9, ground := Ground.guard }], guard := some (9, true) }) (v := undef) rfl (by kernel_rfl) (by kernel_rfl) (by kernel_rfl) (fun _ _ _ h => h) (Or.inr ⟨by rfl, rfl⟩) hn ?_
            try simp only [Act.put, List.setIfInBounds_toArray, List.set_cons_zero, List.set_cons_succ]
            refine wpAnyH_take (i := 13) (oi := { dst := some 70, op := Op.move (Operand.tmp 69), type := 4, pos := "instr.go:64", after := #[{ on := 12, ground := Ground.data }, { on := 9, ground := Ground.chain }, { on := 9, ground := Ground.guard }], guard := some (9, true) }) (v := undef) rfl (by kernel_rfl) (by kernel_rfl) (by kernel_rfl) (fun _ _ _ h => h) (Or.inr ⟨by rfl, rfl⟩) hn ?_
            try simp only [Act.put, List.setIfInBounds_toArray, List.set_cons_zero, List.set_cons_succ]
            refine wpAnyH_take (i := 14) (oi := { dst := some 71, op := Op.fieldAddr 34 (Operand.tmp 1) 6, type := 0, pos := "instr.go:64", after := #[{ on := 13, ground := Ground.guard }], guard := some (13, false) }) (v := undef) rfl (by kernel_rfl) (by kernel_rfl) (by kernel_rfl) (fun _ _ _ h => h) (Or.inr ⟨by rfl, rfl⟩) hn ?_
            try simp only [Act.put, List.setIfInBounds_toArray, List.set_cons_zero, List.set_cons_succ]
            refine wpAnyH_take (i := 15) (oi := { dst := some 72, op := Op.load 9 (Operand.tmp 71), type := 9, pos := "instr.go:64", after := #[{ on := 14, ground := Ground.data }, { on := 13, ground := Ground.guard }], guard := some (13, false) }) (v := undef) rfl (by kernel_rfl) (by kernel_rfl) (by kernel_rfl) (fun _ _ _ h => h) (Or.inr ⟨by rfl, rfl⟩) hn ?_
            try simp only [Act.put, List.setIfInBounds_toArray, List.set_cons_zero, List.set_cons_succ]
            refine wpAnyH_take (i := 16) (oi := { dst := some 73, op := Op.call { callee := Callee.value (Operand.func 33), args := #[Operand.tmp 72], argTypes := #[9] }, type := 4, pos := "instr.go:64", after := #[{ on := 15, ground := Ground.data }, { on := 13, ground := Ground.chain }, { on := 13, ground := Ground.guard }], guard := some (13, false) }) (v := undef) rfl (by kernel_rfl) (by kernel_rfl) (by kernel_rfl) (fun _ _ _ h => h) (Or.inr ⟨by rfl, rfl⟩) hn ?_
            try simp only [Act.put, List.setIfInBounds_toArray, List.set_cons_zero, List.set_cons_succ]
            refine wpAnyH_take (i := 17) (oi := { dst := some 74, op := Op.pick (Operand.tmp 70) (Operand.const (Value.bool true)) (Operand.tmp 73), type := 4, pos := "instr.go:64", after := #[{ on := 13, ground := Ground.data }, { on := 16, ground := Ground.data }, { on := 9, ground := Ground.guard }], guard := some (9, true) }) (v := undef) rfl (by kernel_rfl) (by kernel_rfl) (by kernel_rfl) (fun _ _ _ h => h) (Or.inr ⟨by rfl, rfl⟩) hn ?_
            try simp only [Act.put, List.setIfInBounds_toArray, List.set_cons_zero, List.set_cons_succ]
            refine wpAnyH_take (i := 18) (oi := { dst := some 75, op := Op.pick (Operand.tmp 66) (Operand.tmp 74) (Operand.const (Value.bool false)), type := 4, pos := "instr.go:64", after := #[{ on := 9, ground := Ground.data }, { on := 17, ground := Ground.data }], guard := none }) (v := ?v31x16) rfl (by kernel_rfl) (by kernel_rfl) (by kernel_rfl) (fun _ _ _ h => h) (Or.inl ⟨by rfl, ?y31x16⟩) hn ?r31x16
            case y31x16 => (intro wS hS; (try go_simp); (try with_reducible rfl))
            try simp only [Act.put, List.setIfInBounds_toArray, List.set_cons_zero, List.set_cons_succ]
            refine wpAnyH_take (i := 19) (oi := { dst := some 4, op := Op.assign (Operand.tmp 75), type := 4, pos := "instr.go:64", after := #[{ on := 18, ground := Ground.data }, { on := 16, ground := Ground.chain }, { on := 0, ground := Ground.phase }, { on := 1, ground := Ground.phase }, { on := 2, ground := Ground.phase }, { on := 3, ground := Ground.phase }, { on := 4, ground := Ground.phase }, { on := 5, ground := Ground.phase }, { on := 6, ground := Ground.phase }, { on := 7, ground := Ground.phase }, { on := 8, ground := Ground.phase }, { on := 9, ground := Ground.phase }, { on := 10, ground := Ground.phase }, { on := 11, ground := Ground.phase }, { on := 12, ground := Ground.phase }, { on := 13, ground := Ground.phase }, { on := 14, ground := Ground.phase }, { on := 15, ground := Ground.phase }, { on := 16, ground := Ground.phase }, { on := 17, ground := Ground.phase }, { on := 18, ground := Ground.phase }], guard := none }) (v := ?v31x17) rfl (by kernel_rfl) (by kernel_rfl) (by kernel_rfl) (fun _ _ _ h => h) (Or.inl ⟨by rfl, ?y31x17⟩) hn ?r31x17
            case y31x17 => (intro wS hS; (try go_simp); (try with_reducible rfl))
            try simp only [Act.put, List.setIfInBounds_toArray, List.set_cons_zero, List.set_cons_succ]
            refine wpAnyH_take (i := 20) (oi := { dst := some 76, op := Op.fieldAddr 34 (Operand.tmp 1) 6, type := 0, pos := "instr.go:64", after := #[{ on := 0, ground := Ground.phase }, { on := 1, ground := Ground.phase }, { on := 2, ground := Ground.phase }, { on := 3, ground := Ground.phase }, { on := 4, ground := Ground.phase }, { on := 5, ground := Ground.phase }, { on := 6, ground := Ground.phase }, { on := 7, ground := Ground.phase }, { on := 8, ground := Ground.phase }, { on := 9, ground := Ground.phase }, { on := 10, ground := Ground.phase }, { on := 11, ground := Ground.phase }, { on := 12, ground := Ground.phase }, { on := 13, ground := Ground.phase }, { on := 14, ground := Ground.phase }, { on := 15, ground := Ground.phase }, { on := 16, ground := Ground.phase }, { on := 17, ground := Ground.phase }, { on := 18, ground := Ground.phase }, { on := 19, ground := Ground.phase }], guard := none }) (v := ?v31x18) rfl (by kernel_rfl) (by kernel_rfl) (by kernel_rfl) (fun _ _ _ h => h) (Or.inl ⟨by rfl, ?y31x18⟩) hn ?r31x18
            case y31x18 => (intro wS hS; (try go_simp); (try with_reducible rfl))
            try simp only [Act.put, List.setIfInBounds_toArray, List.set_cons_zero, List.set_cons_succ]
            refine wpAnyH_ready (rs := [21]) (by kernel_rfl) (by simp) ?_
            refine AllReadyH.cons (o := { dst := none, op := Op.store 9 (Operand.tmp 76) (Operand.const (Value.string { data := #[] })), type := 0, pos := "instr.go:64", after := #[{ on := 20, ground := Ground.data }, { on := 19, ground := Ground.chain }, { on := 0, ground := Ground.phase }, { on := 1, ground := Ground.phase }, { on := 2, ground := Ground.phase }, { on := 3, ground := Ground.phase }, { on := 4, ground := Ground.phase }, { on := 5, ground := Ground.phase }, { on := 6, ground := Ground.phase }, { on := 7, ground := Ground.phase }, { on := 8, ground := Ground.phase }, { on := 9, ground := Ground.phase }, { on := 10, ground := Ground.phase }, { on := 11, ground := Ground.phase }, { on := 12, ground := Ground.phase }, { on := 13, ground := Ground.phase }, { on := 14, ground := Ground.phase }, { on := 15, ground := Ground.phase }, { on := 16, ground := Ground.phase }, { on := 17, ground := Ground.phase }, { on := 18, ground := Ground.phase }, { on := 19, ground := Ground.phase }], guard := none }) rfl (fun K hK => ?_) AllReadyH.nil
            have z9 := cellAt hbx 9 (v := .string raw) rfl
            have f9 := frozenAt hbx 9
            go_simp
            have hbx := hp_set hbx 9 (.string ⟨#[]⟩)
            have hn : (fun w' => New w w' ∧ w'.heap[wa.heap.size]? = some (.cells #[.int .i64 12, .int .i64 ln] 66)) (wr.setCell ⟨w.heap.size, 9, none⟩ (.string ⟨#[]⟩)) := ⟨setNew hn.1 9 _, hp_other hn.2 HNE.out⟩
            refine hK.out _ _ (by first | exact hn | exact Upd.alloc hn _) (fun hn => ?_)
            clear hK K
            try simp only [Act.put, List.setIfInBounds_toArray, List.set_cons_zero, List.set_cons_succ]
            refine wpAnyH_done (by kernel_rfl) ?_ _
            refine NoPanic.normal ?_
            go_wp2_with fail
            go_meet
            exact ⟨_, (.slice al li.length cl), (.slice au (lb ty).length cu), rfl, (by have h := has_ne HBH.out; simp [ownQ, h]), hbx, hn.1, HL.out.new hn.1, HU.out.new hn.1⟩
          refine AllReadyH.cons (o := { dst := some 62, op := Op.load 9 (Operand.tmp 61), type := 9, pos := "instr.go:64", after := #[{ on := 4, ground := Ground.data }, { on := 1, ground := Ground.guard }], guard := some (1, true) }) rfl (fun K hK => ?_) AllReadyH.nil
          have z9 := cellAt hbx 9 (v := .string raw) rfl
          go_simp
          refine hK.out _ _ (by first | exact hn | exact Upd.alloc hn _) (fun hn => ?_)
          clear hK K
          try simp only [Act.put, List.setIfInBounds_toArray, List.set_cons_zero, List.set_cons_succ]
          refine wpAnyH_take (i := 6) (oi := { dst := some 63, op := Op.call { callee := Callee.builtin Builtin.len, args := #[Operand.tmp 62], argTypes := #[9] }, type := 3, pos := "instr.go:64", after := #[{ on := 5, ground := Ground.data }, { on := 1, ground := Ground.guard }], guard := some (1, true) }) (v := ?v31x19) rfl (by kernel_rfl) (by kernel_rfl) (by kernel_rfl) (fun _ _ _ h => h) (Or.inl ⟨by rfl, ?y31x19⟩) hn ?r31x19
          case y31x19 => (intro wS hS; (try go_simp); (try with_reducible rfl))
          try simp only [Act.put, List.setIfInBounds_toArray, List.set_cons_zero, List.set_cons_succ]
          refine wpAnyH_ready (rs := [3]) (by kernel_rfl) (by simp) ?_
          refine AllReadyH.cons (o := { dst := some 60, op := Op.call { callee := Callee.value (Operand.func 31), args := #[Operand.tmp 59], argTypes := #[66] }, type := 70, pos := "instr.go:64", after := #[{ on := 2, ground := Ground.data }, { on := 1, ground := Ground.chain }, { on := 1, ground := Ground.guard }], guard := some (1, true) }) rfl (fun K hK => ?_) AllReadyH.nil
          go_simp
          refine (HS2.out _ _).mono ?_
          rintro e wq ⟨rfl, hnq⟩
          go_wp2_with fail
          have hbx := hp1 hbx hnq
          have hn : (fun w' => New w w' ∧ w'.heap[wa.heap.size]? = some (.cells #[.int .i64 12, .int .i64 ln] 66)) wq := ⟨New.trans hn.1 hnq, hp1 hn.2 hnq⟩
          refine hK.out _ _ (by first | exact hn | exact Upd.alloc hn _) (fun hn => ?_)
          clear hK K
          try simp only [Act.put, List.setIfInBounds_toArray, List.set_cons_zero, List.set_cons_succ]
          refine wpAnyH_ready (rs := [7]) (by kernel_rfl) (by simp) ?_
          refine AllReadyH.cons (o := { dst := some 64, op := Op.call { callee := Callee.value (Operand.func 32), args := #[Operand.tmp 60, Operand.tmp 63], argTypes := #[70, 3] }, type := 4, pos := "instr.go:64", after := #[{ on := 3, ground := Ground.data }, { on := 6, ground := Ground.data }, { on := 3, ground := Ground.chain }, { on := 1, ground := Ground.guard }], guard := some (1, true) }) rfl (fun K hK => ?_) AllReadyH.nil
          go_simp
          refine (HH2.out _).mono ?_
          rintro e wr ⟨rfl, hnq⟩
          go_wp2_with fail
          have hbx := hp1 hbx hnq
          have hn : (fun w' => New w w' ∧ w'.heap[wa.heap.size]? = some (.cells #[.int .i64 12, .int .i64 ln] 66)) wr := ⟨New.trans hn.1 hnq, hp1 hn.2 hnq⟩
          refine hK.out _ _ (by first | exact hn | exact Upd.alloc hn _) (fun hn => ?_)
          clear hK K
          try simp only [Act.put, List.setIfInBounds_toArray, List.set_cons_zero, List.set_cons_succ]
          refine wpAnyH_take (i := 8) (oi := { dst := some 65, op := Op.pick (Operand.tmp 58) (Operand.tmp 64) (Operand.const (Value.bool false)), type := 4, pos := "instr.go:64", after := #[{ on := 1, ground := Ground.data }, { on := 7, ground := Ground.data }], guard := none }) (v := ?v31x20) rfl (by kernel_rfl) (by kernel_rfl) (by kernel_rfl) (fun _ _ _ h => h) (Or.inl ⟨by rfl, ?y31x20⟩) hn ?r31x20
          case y31x20 => (intro wS hS; (try go_simp); (try with_reducible rfl))
          try simp only [Act.put, List.setIfInBounds_toArray, List.set_cons_zero, List.set_cons_succ]
          refine wpAnyH_take (i := 9) (oi := { dst := some 66, op := Op.move (Operand.tmp 65), type := 4, pos := "instr.go:64", after := #[{ on := 8, ground := Ground.data }, { on := 7, ground := Ground.chain }], guard := none }) (v := ?v31x21) rfl (by kernel_rfl) (by kernel_rfl) (by kernel_rfl) (fun _ _ _ h => h) (Or.inl ⟨by rfl, ?y31x21⟩) hn ?r31x21
          case y31x21 => (intro wS hS; (try go_simp); (try with_reducible rfl))
          try simp only [Act.put, List.setIfInBounds_toArray, List.set_cons_zero, List.set_cons_succ]
          refine wpAnyH_take (i := 10) (oi := { dst := some 67, op := Op.fieldAddr 66 (Operand.tmp 3) 0, type := 0, pos := "instr.go:64", after := #[{ on := 9, ground := Ground.guard }], guard := some (9, true) }) (v := undef) rfl (by kernel_rfl) (by kernel_rfl) (by kernel_rfl) (fun _ _ _ h => h) (Or.inr ⟨by rfl, rfl⟩) hn ?_
          try simp only [Act.put, List.setIfInBounds_toArray, List.set_cons_zero, List.set_cons_succ]
          refine wpAnyH_take (i := 11) (oi := { dst := some 68, op := Op.load 3 (Operand.tmp 67), type := 3, pos := "instr.go:64", after := #[{ on := 10, ground := Ground.data }, { on := 9, ground := Ground.guard }], guard := some (9, true) }) (v := undef) rfl (by kernel_rfl) (by kernel_rfl) (by kernel_rfl) (fun _ _ _ h => h) (Or.inr ⟨by rfl, rfl⟩) hn ?_
          try simp only [Act.put, List.setIfInBounds_toArray, List.set_cons_zero, List.set_cons_succ]
          refine wpAnyH_take (i := 12) (oi := { dst := some 69, op := Op.binOp BinOp.neq 3 (Operand.tmp 68) (Operand.const (Value.int IntKind.i64 14)) 3, type := 4, pos := "instr.go:64", after := #[{ on := 11, ground := Ground.data }, { on := 9, ground := Ground.guard }], guard := some (9, true) }) (v := undef) rfl (by kernel_rfl) (by kernel_rfl) (by kernel_rfl) (fun _ _ _ h => h) (Or.inr ⟨by rfl, rfl⟩) hn ?_
          try simp only [Act.put, List.setIfInBounds_toArray, List.set_cons_zero, List.set_cons_succ]
          refine wpAnyH_take (i := 13) (oi := { dst := some 70, op := Op.move (Operand.tmp 69), type := 4, pos := "instr.go:64", after := #[{ on := 12, ground := Ground.data }, { on := 9, ground := Ground.chain }, { on := 9, ground := Ground.guard }], guard := some (9, true) }) (v := undef) rfl (by kernel_rfl) (by kernel_rfl) (by kernel_rfl) (fun _ _ _ h => h) (Or.inr ⟨by rfl, rfl⟩) hn ?_
          try simp only [Act.put, List.setIfInBounds_toArray, List.set_cons_zero, List.set_cons_succ]
          refine wpAnyH_take (i := 14) (oi := { dst := some 71, op := Op.fieldAddr 34 (Operand.tmp 1) 6, type := 0, pos := "instr.go:64", after := #[{ on := 13, ground := Ground.guard }], guard := some (13, false) }) (v := undef) rfl (by kernel_rfl) (by kernel_rfl) (by kernel_rfl) (fun _ _ _ h => h) (Or.inr ⟨by rfl, rfl⟩) hn ?_
          try simp only [Act.put, List.setIfInBounds_toArray, List.set_cons_zero, List.set_cons_succ]
          refine wpAnyH_take (i := 15) (oi := { dst := some 72, op := Op.load 9 (Operand.tmp 71), type := 9, pos := "instr.go:64", after := #[{ on := 14, ground := Ground.data }, { on := 13, ground := Ground.guard }], guard := some (13, false) }) (v := undef) rfl (by kernel_rfl) (by kernel_rfl) (by kernel_rfl) (fun _ _ _ h => h) (Or.inr ⟨by rfl, rfl⟩) hn ?_
          try simp only [Act.put, List.setIfInBounds_toArray, List.set_cons_zero, List.set_cons_succ]
          refine wpAnyH_take (i := 16) (oi := { dst := some 73, op := Op.call { callee := Callee.value (Operand.func 33), args := #[Operand.tmp 72], argTypes := #[9] }, type := 4, pos := "instr.go:64", after := #[{ on := 15, ground := Ground.data }, { on := 13, ground := Ground.chain }, { on := 13, ground := Ground.guard }], guard := some (13, false) }) (v := undef) rfl (by kernel_rfl) (by kernel_rfl) (by kernel_rfl) (fun _ _ _ h => h) (Or.inr ⟨by rfl, rfl⟩) hn ?_
          try simp only [Act.put, List.setIfInBounds_toArray, List.set_cons_zero, List.set_cons_succ]
          refine wpAnyH_take (i := 17) (oi := { dst := some 74, op := Op.pick (Operand.tmp 70) (Operand.const (Value.bool true)) (Operand.tmp 73), type := 4, pos := "instr.go:64", after := #[{ on := 13, ground := Ground.data }, { on := 16, ground := Ground.data }, { on := 9, ground := Ground.guard }], guard := some (9, true) }) (v := undef) rfl (by kernel_rfl) (by kernel_rfl) (by kernel_rfl) (fun _ _ _ h => h) (Or.inr ⟨by rfl, rfl⟩) hn ?_
          try simp only [Act.put, List.setIfInBounds_toArray, List.set_cons_zero, List.set_cons_succ]
          refine wpAnyH_take (i := 18) (oi := { dst := some 75, op := Op.pick (Operand.tmp 66) (Operand.tmp 74) (Operand.const (Value.bool false)), type := 4, pos := "instr.go:64", after := #[{ on := 9, ground := Ground.data }, { on := 17, ground := Ground.data }], guard := none }) (v := ?v31x30) rfl (by kernel_rfl) (by kernel_rfl) (by kernel_rfl) (fun _ _ _ h => h) (Or.inl ⟨by rfl, ?y31x30⟩) hn ?r31x30
          case y31x30 => (intro wS hS; (try go_simp); (try with_reducible rfl))
          try simp only [Act.put, List.setIfInBounds_toArray, List.set_cons_zero, List.set_cons_succ]
          refine wpAnyH_take (i := 19) (oi := { dst := some 4, op := Op.assign (Operand.tmp 75), type := 4, pos := "instr.go:64", after := #[{ on := 18, ground := Ground.data }, { on := 16, ground := Ground.chain }, { on := 0, ground := Ground.phase }, { on := 1, ground := Ground.phase }, { on := 2, ground := Ground.phase }, { on := 3, ground := Ground.phase }, { on := 4, ground := Ground.phase }, { on := 5, ground := Ground.phase }, { on := 6, ground := Ground.phase }, { on := 7, ground := Ground.phase }, { on := 8, ground := Ground.phase }, { on := 9, ground := Ground.phase }, { on := 10, ground := Ground.phase }, { on := 11, ground := Ground.phase }, { on := 12, ground := Ground.phase }, { on := 13, ground := Ground.phase }, { on := 14, ground := Ground.phase }, { on := 15, ground := Ground.phase }, { on := 16, ground := Ground.phase }, { on := 17, ground := Ground.phase }, { on := 18, ground := Ground.phase }], guard := none }) (v := ?v31x31) rfl (by kernel_rfl) (by kernel_rfl) (by kernel_rfl) (fun _ _ _ h => h) (Or.inl ⟨by rfl, ?y31x31⟩) hn ?r31x31
          case y31x31 => (intro wS hS; (try go_simp); (try with_reducible rfl))
          try simp only [Act.put, List.setIfInBounds_toArray, List.set_cons_zero, List.set_cons_succ]
          refine wpAnyH_take (i := 20) (oi := { dst := some 76, op := Op.fieldAddr 34 (Operand.tmp 1) 6, type := 0, pos := "instr.go:64", after := #[{ on := 0, ground := Ground.phase }, { on := 1, ground := Ground.phase }, { on := 2, ground := Ground.phase }, { on := 3, ground := Ground.phase }, { on := 4, ground := Ground.phase }, { on := 5, ground := Ground.phase }, { on := 6, ground := Ground.phase }, { on := 7, ground := Ground.phase }, { on := 8, ground := Ground.phase }, { on := 9, ground := Ground.phase }, { on := 10, ground := Ground.phase }, { on := 11, ground := Ground.phase }, { on := 12, ground := Ground.phase }, { on := 13, ground := Ground.phase }, { on := 14, ground := Ground.phase }, { on := 15, ground := Ground.phase }, { on := 16, ground := Ground.phase }, { on := 17, ground := Ground.phase }, { on := 18, ground := Ground.phase }, { on := 19, ground := Ground.phase }], guard := none }) (v := ?v31x32) rfl (by kernel_rfl) (by kernel_rfl) (by kernel_rfl) (fun _ _ _ h => h) (Or.inl ⟨by rfl, ?y31x32⟩) hn ?r31x32
          case y31x32 => (intro wS hS; (try go_simp); (try with_reducible rfl))
          try simp only [Act.put, List.setIfInBounds_toArray, List.set_cons_zero, List.set_cons_succ]
          refine wpAnyH_ready (rs := [21]) (by kernel_rfl) (by simp) ?_
          refine AllReadyH.cons (o := { dst := none, op := Op.store 9 (Operand.tmp 76) (Operand.const (Value.string { data := #[] })), type := 0, pos := "instr.go:64", after := #[{ on := 20, ground := Ground.data }, { on := 19, ground := Ground.chain }, { on := 0, ground := Ground.phase }, { on := 1, ground := Ground.phase }, { on := 2, ground := Ground.phase }, { on := 3, ground := Ground.phase }, { on := 4, ground := Ground.phase }, { on := 5, ground := Ground.phase }, { on := 6, ground := Ground.phase }, { on := 7, ground := Ground.phase }, { on := 8, ground := Ground.phase }, { on := 9, ground := Ground.phase }, { on := 10, ground := Ground.phase }, { on := 11, ground := Ground.phase }, { on := 12, ground := Ground.phase }, { on := 13, ground := Ground.phase }, { on := 14, ground := Ground.phase }, { on := 15, ground := Ground.phase }, { on := 16, ground := Ground.phase }, { on := 17, ground := Ground.phase }, { on := 18, ground := Ground.phase }, { on := 19, ground := Ground.phase }], guard := none }) rfl (fun K hK => ?_) AllReadyH.nil
          have z9 := cellAt hbx 9 (v := .string raw) rfl
          have f9 := frozenAt hbx 9
          go_simp
          have hbx := hp_set hbx 9 (.string ⟨#[]⟩)
          have hn : (fun w' => New w w' ∧ w'.heap[wa.heap.size]? = some (.cells #[.int .i64 12, .int .i64 ln] 66)) (wr.setCell ⟨w.heap.size, 9, none⟩ (.string ⟨#[]⟩)) := ⟨setNew hn.1 9 _, hp_other hn.2 HNE.out⟩
          refine hK.out _ _ (by first | exact hn | exact Upd.alloc hn _) (fun hn => ?_)
          clear hK K
          try simp only [Act.put, List.setIfInBounds_toArray, List.set_cons_zero, List.set_cons_succ]
          refine wpAnyH_done (by kernel_rfl) ?_ _
          refine NoPanic.normal ?_
          go_wp2_with fail
          go_meet
          exact ⟨_, (.slice al li.length cl), (.slice au (lb ty).length cu), rfl, (by have h := has_ne HBH.out; simp [ownQ, h]), hbx, hn.1, HL.out.new hn.1, HU.out.new hn.1⟩
      · -- 13
        have HS2 := hid (fun l w => HSP.out 13 l w)
        rw [spanV_13] at HS2
        have HH2 := hid (fun w => HHA.out 16 16 raw.size w)
        obtain ⟨bh, hbh⟩ : ∃ bh, Span.has 16 16 raw.size = bh := ⟨_, rfl⟩
        rw [hbh] at HH2
        have y0 : wb.cell? ⟨wa.heap.size, 0, none⟩ = some (.int .i64 13) := cellAt HI.out 0 rfl
        have y1 : wb.cell? ⟨wa.heap.size, 1, none⟩ = some (.int .i64 ln) := cellAt HI.out 1 rfl
        have z9 : wb.cell? ⟨w.heap.size, 9, none⟩ = some (.string raw) := cellAt HB.out 9 rfl
        have f9 : wb.frozen? ⟨w.heap.size, 9, none⟩ = false := frozenAt HB.out 9
        have HBH := hid hbh
        clear hbh
        cases bh with
        | true =>
          have hn : (fun w' => New w w' ∧ w'.heap[wa.heap.size]? = some (.cells #[.int .i64 13, .int .i64 ln] 66)) wb.drew := ⟨HN.out.drew, HI.out⟩
          have hbx : Box wb.drew w.heap.size ⟨p, c, k, t, i, x, y, li, n, raw, lane, ty⟩ (.slice al li.length cl) (.slice au (lb ty).length cu) := HB.out
          clear y0 y1 z9 f9
          go_wp2_with fail
          refine wp_region_noPanic ?_
          refine wp_region_held_drew (S := (fun w' => New w w' ∧ w'.heap[wa.heap.size]? = some (.cells #[.int .i64 13, .int .i64 ln] 66))) (by kernel_rfl) (by first | exact hn | exact (Upd.refl _ _).drew | exact Upd.drew (by assumption)) (fun hn => ?_)
          generalize wb.drew = wd at *
          refine wpAnyH_take (i := 0) (oi := { dst := some 57, op := Op.move (Operand.tmp 4), type := 4, pos := "instr.go:64", after := #[], guard := none }) (v := ?v32x1) rfl (by kernel_rfl) (by kernel_rfl) (by kernel_rfl) (fun _ _ _ h => h) (Or.inl ⟨by rfl, ?y32x1⟩) hn ?r32x1
          case y32x1 => (intro wS hS; (try go_simp); (try with_reducible rfl))
          try simp only [Act.put, List.setIfInBounds_toArray, List.set_cons_zero, List.set_cons_succ]
          refine wpAnyH_take (i := 1) (oi := { dst := some 58, op := Op.move (Operand.tmp 57), type := 4, pos := "instr.go:64", after := #[{ on := 0, ground := Ground.data }], guard := none }) (v := ?v32x2) rfl (by kernel_rfl) (by kernel_rfl) (by kernel_rfl) (fun _ _ _ h => h) (Or.inl ⟨by rfl, ?y32x2⟩) hn ?r32x2
          case y32x2 => (intro wS hS; (try go_simp); (try with_reducible rfl))
          try simp only [Act.put, List.setIfInBounds_toArray, List.set_cons_zero, List.set_cons_succ]
          refine wpAnyH_take (i := 2) (oi := { dst := some 59, op := Op.load 66 (Operand.tmp 3), type := 66, pos := "instr.go:64", after := #[{ on := 1, ground := Ground.guard }], guard := some (1, true) }) (v := ?v32x3) rfl (by kernel_rfl) (by kernel_rfl) (by kernel_rfl) (fun _ _ _ h => h) (Or.inl ⟨by rfl, ?y32x3⟩) hn ?r32x3
          case y32x3 => (intro wS hS; have c0 := cellAt hS.2 0 rfl; have c1 := cellAt hS.2 1 rfl; (try go_simp); (try with_reducible rfl))
          try simp only [Act.put, List.setIfInBounds_toArray, List.set_cons_zero, List.set_cons_succ]
          refine wpAnyH_take (i := 4) (oi := { dst := some 61, op := Op.fieldAddr 34 (Operand.tmp 1) 6, type := 0, pos := "instr.go:64", after := #[{ on := 1, ground := Ground.guard }], guard := some (1, true) }) (v := ?v32x4) rfl (by kernel_rfl) (by kernel_rfl) (by kernel_rfl) (fun _ _ _ h => h) (Or.inl ⟨by rfl, ?y32x4⟩) hn ?r32x4
          case y32x4 => (intro wS hS; (try go_simp); (try with_reducible rfl))
          try simp only [Act.put, List.setIfInBounds_toArray, List.set_cons_zero, List.set_cons_succ]
          refine wpAnyH_ready (rs := [3, 5]) (by kernel_rfl) (by simp) ?_
          refine AllReadyH.cons (o := { dst := some 60, op := Op.call { callee := Callee.value (Operand.func 31), args := #[Operand.tmp 59], argTypes := #[66] }, type := 70, pos := "instr.go:64", after := #[{ on := 2, ground := Ground.data }, { on := 1, ground := Ground.chain }, { on := 1, ground := Ground.guard }], guard := some (1, true) }) rfl (fun K hK => ?_) ?_
          · skip
            go_simp
            refine (HS2.out _ _).mono ?_
            rintro e wq ⟨rfl, hnq⟩
            go_wp2_with fail
            have hbx := hp1 hbx hnq
            have hn : (fun w' => New w w' ∧ w'.heap[wa.heap.size]? = some (.cells #[.int .i64 13, .int .i64 ln] 66)) wq := ⟨New.trans hn.1 hnq, hp1 hn.2 hnq⟩
            refine hK.out _ _ (by first | exact hn | exact Upd.alloc hn _) (fun hn => ?_)
            clear hK K
            try simp only [Act.put, List.setIfInBounds_toArray, List.set_cons_zero, List.set_cons_succ]
            refine wpAnyH_ready (rs := [5]) (by kernel_rfl) (by simp) ?_
            refine AllReadyH.cons (o := { dst := some 62, op := Op.load 9 (Operand.tmp 61), type := 9, pos := "instr.go:64", after := #[{ on := 4, ground := Ground.data }, { on := 1, ground := Ground.guard }], guard := some (1, true) }) rfl (fun K hK => ?_) AllReadyH.nil
            have z9 := cellAt hbx 9 (v := .string raw) rfl
            go_simp
            refine hK.out _ _ (by first | exact hn | exact Upd.alloc hn _) (fun hn => ?_)
            clear hK K
            try simp only [Act.put, List.setIfInBounds_toArray, List.set_cons_zero, List.set_cons_succ]
            refine wpAnyH_take (i := 6) (oi := { dst := some 63, op := Op.call { callee := Callee.builtin Builtin.len, args := #[Operand.tmp 62], argTypes := #[9] }, type := 3, pos := "instr.go:64", after := #[{ on := 5, ground := Ground.data }, { on := 1, ground := Ground.guard }], guard := some (1, true) }) (v := ?v32x5) rfl (by kernel_rfl) (by kernel_rfl) (by kernel_rfl) (fun _ _ _ h => h) (Or.inl ⟨by rfl, ?y32x5⟩) hn ?r32x5
            case y32x5 => (intro wS hS; (try go_simp); (try with_reducible rfl))
            try simp only [Act.put, List.setIfInBounds_toArray, List.set_cons_zero, List.set_cons_succ]
            refine wpAnyH_ready (rs := [7]) (by kernel_rfl) (by simp) ?_
            refine AllReadyH.cons (o := { dst := some 64, op := Op.call { callee := Callee.value (Operand.func 32), args := #[Operand.tmp 60, Operand.tmp 63], argTypes := #[70, 3] }, type := 4, pos := "instr.go:64", after := #[{ on := 3, ground := Ground.data }, { on := 6, ground := Ground.data }, { on := 3, ground := Ground.chain }, { on := 1, ground := Ground.guard }], guard := some (1, true) }) rfl (fun K hK => ?_) AllReadyH.nil
            go_simp
            refine (HH2.out _).mono ?_
            rintro e wr ⟨rfl, hnq⟩
            go_wp2_with fail
            have hbx := hp1 hbx hnq
            have hn : (fun w' => New w w' ∧ w'.heap[wa.heap.size]? = some (.cells #[.int .i64 13, .int .i64 ln] 66)) wr := ⟨New.trans hn.1 hnq, hp1 hn.2 hnq⟩
            refine hK.out _ _ (by first | exact hn | exact Upd.alloc hn _) (fun hn => ?_)
            clear hK K
            try simp only [Act.put, List.setIfInBounds_toArray, List.set_cons_zero, List.set_cons_succ]
            refine wpAnyH_take (i := 8) (oi := { dst := some 65, op := Op.pick (Operand.tmp 58) (Operand.tmp 64) (Operand.const (Value.bool false)), type := 4, pos := "instr.go:64", after := #[{ on := 1, ground := Ground.data }, { on := 7, ground := Ground.data }], guard := none }) (v := ?v32x6) rfl (by kernel_rfl) (by kernel_rfl) (by kernel_rfl) (fun _ _ _ h => h) (Or.inl ⟨by rfl, ?y32x6⟩) hn ?r32x6
            case y32x6 => (intro wS hS; (try go_simp); (try with_reducible rfl))
            try simp only [Act.put, List.setIfInBounds_toArray, List.set_cons_zero, List.set_cons_succ]
            refine wpAnyH_take (i := 9) (oi := { dst := some 66, op := Op.move (Operand.tmp 65), type := 4, pos := "instr.go:64", after := #[{ on := 8, ground := Ground.data }, { on := 7, ground := Ground.chain }], guard := none }) (v := ?v32x7) rfl (by kernel_rfl) (by kernel_rfl) (by kernel_rfl) (fun _ _ _ h => h) (Or.inl ⟨by rfl, ?y32x7⟩) hn ?r32x7
            case y32x7 => (intro wS hS; (try go_simp); (try with_reducible rfl))
            try simp only [Act.put, List.setIfInBounds_toArray, List.set_cons_zero, List.set_cons_succ]
            refine wpAnyH_take (i := 10) (oi := { dst := some 67, op := Op.fieldAddr 66 (Operand.tmp 3) 0, type := 0, pos := "instr.go:64", after := #[{ on := 9, ground := Ground.guard }], guard := some (9, true) }) (v := ?v32x8) rfl (by kernel_rfl) (by kernel_rfl) (by kernel_rfl) (fun _ _ _ h => h) (Or.inl ⟨by rfl, ?y32x8⟩) hn ?r32x8
            case y32x8 => (intro wS hS; (try go_simp); (try with_reducible rfl))
            try simp only [Act.put, List.setIfInBounds_toArray, List.set_cons_zero, List.set_cons_succ]
            refine wpAnyH_take (i := 11) (oi := { dst := some 68, op := Op.load 3 (Operand.tmp 67), type := 3, pos := "instr.go:64", after := #[{ on := 10, ground := Ground.data }, { on := 9, ground := Ground.guard }], guard := some (9, true) }) (v := ?v32x9) rfl (by kernel_rfl) (by kernel_rfl) (by kernel_rfl) (fun _ _ _ h => h) (Or.inl ⟨by rfl, ?y32x9⟩) hn ?r32x9
            case y32x9 => (intro wS hS; have c0 := cellAt hS.2 0 rfl; (try go_simp); (try with_reducible rfl))
            try simp only [Act.put, List.setIfInBounds_toArray, List.set_cons_zero, List.set_cons_succ]
            refine wpAnyH_take (i := 12) (oi := { dst := some 69, op := Op.binOp BinOp.neq 3 (Operand.tmp 68) (Operand.const (Value.int IntKind.i64 14)) 3, type := 4, pos := "instr.go:64", after := #[{ on := 11, ground := Ground.data }, { on := 9, ground := Ground.guard }], guard := some (9, true) }) (v := ?v32x10) rfl (by kernel_rfl) (by kernel_rfl) (by kernel_rfl) (fun _ _ _ h => h) (Or.inl ⟨by rfl, ?y32x10⟩) hn ?r32x10
            case y32x10 => (intro wS hS; (try go_simp); (try with_reducible rfl))
            try simp only [Act.put, List.setIfInBounds_toArray, List.set_cons_zero, List.set_cons_succ]
            refine wpAnyH_take (i := 13) (oi := { dst := some 70, op := Op.move (Operand.tmp 69), type := 4, pos := "instr.go:64", after := #[{ on := 12, ground := Ground.data }, { on := 9, ground := Ground.chain }, { on := 9, ground := Ground.guard }], guard := some (9, true) }) (v := ?v32x11) rfl (by kernel_rfl) (by kernel_rfl) (by kernel_rfl) (fun _ _ _ h => h) (Or.inl ⟨by rfl, ?y32x11⟩) hn ?r32x11
            case y32x11 => (intro wS hS; (try go_simp); (try with_reducible rfl))
            try simp only [Act.put, List.setIfInBounds_toArray, List.set_cons_zero, List.set_cons_succ]
            refine wpAnyH_take (i := 14) (oi := { dst := some 71, op := Op.fieldAddr 34 (Operand.tmp 1) 6, type := 0, pos := "instr.go:64", after := #[{ on := 13, ground := Ground.guard }], guard := some (13, false) }) (v := undef) rfl (by kernel_rfl) (by kernel_rfl) (by kernel_rfl) (fun _ _ _ h => h) (Or.inr ⟨by rfl, rfl⟩) hn ?_
            try simp only [Act.put, List.setIfInBounds_toArray, List.set_cons_zero, List.set_cons_succ]
            refine wpAnyH_take (i := 15) (oi := { dst := some 72, op := Op.load 9 (Operand.tmp 71), type := 9, pos := "instr.go:64", after := #[{ on := 14, ground := Ground.data }, { on := 13, ground := Ground.guard }], guard := some (13, false) }) (v := undef) rfl (by kernel_rfl) (by kernel_rfl) (by kernel_rfl) (fun _ _ _ h => h) (Or.inr ⟨by rfl, rfl⟩) hn ?_
            try simp only [Act.put, List.setIfInBounds_toArray, List.set_cons_zero, List.set_cons_succ]
            refine wpAnyH_take (i := 16) (oi := { dst := some 73, op := Op.call { callee := Callee.value (Operand.func 33), args := #[Operand.tmp 72], argTypes := #[9] }, type := 4, pos := "instr.go:64", after := #[{ on := 15, ground := Ground.data }, { on := 13, ground := Ground.chain }, { on := 13, ground := Ground.guard }], guard := some (13, false) }) (v := undef) rfl (by kernel_rfl) (by kernel_rfl) (by kernel_rfl) (fun _ _ _ h => h) (Or.inr ⟨by rfl, rfl⟩) hn ?_
            try simp only [Act.put, List.setIfInBounds_toArray, List.set_cons_zero, List.set_cons_succ]
            refine wpAnyH_take (i := 17) (oi := { dst := some 74, op := Op.pick (Operand.tmp 70) (Operand.const (Value.bool true)) (Operand.tmp 73), type := 4, pos := "instr.go:64", after := #[{ on := 13, ground := Ground.data }, { on := 16, ground := Ground.data }, { on := 9, ground := Ground.guard }], guard := some (9, true) }) (v := ?v32x15) rfl (by kernel_rfl) (by kernel_rfl) (by kernel_rfl) (fun _ _ _ h => h) (Or.inl ⟨by rfl, ?y32x15⟩) hn ?r32x15
            case y32x15 => (intro wS hS; (try go_simp); (try with_reducible rfl))
            try simp only [Act.put, List.setIfInBounds_toArray, List.set_cons_zero, List.set_cons_succ]
            refine wpAnyH_take (i := 18) (oi := { dst := some 75, op := Op.pick (Operand.tmp 66) (Operand.tmp 74) (Operand.const (Value.bool false)), type := 4, pos := "instr.go:64", after := #[{ on := 9, ground := Ground.data }, { on := 17, ground := Ground.data }], guard := none }) (v := ?v32x16) rfl (by kernel_rfl) (by kernel_rfl) (by kernel_rfl) (fun _ _ _ h => h) (Or.inl ⟨by rfl, ?y32x16⟩) hn ?r32x16
            case y32x16 => (intro wS hS; (try go_simp); (try with_reducible rfl))
            try simp only [Act.put, List.setIfInBounds_toArray, List.set_cons_zero, List.set_cons_succ]
            refine wpAnyH_take (i := 19) (oi := { dst := some 4, op := Op.assign (Operand.tmp 75), type := 4, pos := "instr.go:64", after := #[{ on := 18, ground := Ground.data }, { on := 16, ground := Ground.chain }, { on := 0, ground := Ground.phase }, { on := 1, ground := Ground.phase }, { on := 2, ground := Ground.phase }, { on := 3, ground := Ground.phase }, { on := 4, ground := Ground.phase }, { on := 5, ground := Ground.phase }, { on := 6, ground := Ground.phase }, { on := 7, ground := Ground.phase }, { on := 8, ground := Ground.phase }, { on := 9, ground := Ground.phase }, { on := 10, ground := Ground.phase }, { on := 11, ground := Ground.phase }, { on := 12, ground := Ground.phase }, { on := 13, ground := Ground.phase }, { on := 14, ground := Ground.phase }, { on := 15, ground := Ground.phase }, { on := 16, ground := Ground.phase }, { on := 17, ground := Ground.phase }, { on := 18, ground := Ground.phase }], guard := none }) (v := ?v32x17) rfl (by kernel_rfl) (by kernel_rfl) (by kernel_rfl) (fun _ _ _ h => h) (Or.inl ⟨by rfl, ?y32x17⟩) hn ?r32x17
            case y32x17 => (intro wS hS; (try go_simp); (try with_reducible rfl))
            try simp only [Act.put, List.setIfInBounds_toArray, List.set_cons_zero, List.set_cons_succ]
            refine wpAnyH_take (i := 20) (oi := { dst := some 76, op := Op.fieldAddr 34 (Operand.tmp 1) 6, type := 0, pos := "instr.go:64", after := #[{ on := 0, ground := Ground.phase }, { on := 1, ground := Ground.phase }, { on := 2, ground := Ground.phase }, { on := 3, ground := Ground.phase }, { on := 4, ground := Ground.phase }, { on := 5, ground := Ground.phase }, { on := 6, ground := Ground.phase }, { on := 7, ground := Ground.phase }, { on := 8, ground := Ground.phase }, { on := 9, ground := Ground.phase }, { on := 10, ground := Ground.phase }, { on := 11, ground := Ground.phase }, { on := 12, ground := Ground.phase }, { on := 13, ground := Ground.phase }, { on := 14, ground := Ground.phase }, { on := 15, ground := Ground.phase }, { on := 16, ground := Ground.phase }, { on := 17, ground := Ground.phase }, { on := 18, ground := Ground.phase }, { on := 19, ground := Ground.phase }], guard := none }) (v := ?v32x18) rfl (by kernel_rfl) (by kernel_rfl) (by kernel_rfl) (fun _ _ _ h => h) (Or.inl ⟨by rfl, ?y32x18⟩) hn ?r32x18
            case y32x18 => (intro wS hS; (try go_simp); (try with_reducible rfl))
            try simp only [Act.put, List.setIfInBounds_toArray, List.set_cons_zero, List.set_cons_succ]
            refine wpAnyH_ready (rs := [21]) (by kernel_rfl) (by simp) ?_
            refine AllReadyH.cons (o := { dst := none, op := Op.store 9 (Operand.tmp 76) (Operand.const (Value.string { data := #[] })), type := 0, pos := "instr.go:64", after := #[{ on := 20, ground := Ground.data }, { on := 19, ground := Ground.chain }, { on := 0, ground := Ground.phase }, { on := 1, ground := Ground.phase }, { on := 2, ground := Ground.phase }, { on := 3, ground := Ground.phase }, { on := 4, ground := Ground.phase }, { on := 5, ground := Ground.phase }, { on := 6, ground := Ground.phase }, { on := 7, ground := Ground.phase }, { on := 8, ground := Ground.phase }, { on := 9, ground := Ground.phase }, { on := 10, ground := Ground.phase }, { on := 11, ground := Ground.phase }, { on := 12, ground := Ground.phase }, { on := 13, ground := Ground.phase }, { on := 14, ground := Ground.phase }, { on := 15, ground := Ground.phase }, { on := 16, ground := Ground.phase }, { on := 17, ground := Ground.phase }, { on := 18, ground := Ground.phase }, { on := 19, ground := Ground.phase }], guard := none }) rfl (fun K hK => ?_) AllReadyH.nil
            have z9 := cellAt hbx 9 (v := .string raw) rfl
            have f9 := frozenAt hbx 9
            go_simp
            have hbx := hp_set hbx 9 (.string ⟨#[]⟩)
            have hn : (fun w' => New w w' ∧ w'.heap[wa.heap.size]? = some (.cells #[.int .i64 13, .int .i64 ln] 66)) (wr.setCell ⟨w.heap.size, 9, none⟩ (.string ⟨#[]⟩)) := ⟨setNew hn.1 9 _, hp_other hn.2 HNE.out⟩
            refine hK.out _ _ (by first | exact hn | exact Upd.alloc hn _) (fun hn => ?_)
            clear hK K
            try simp only [Act.put, List.setIfInBounds_toArray, List.set_cons_zero, List.set_cons_succ]
            refine wpAnyH_done (by kernel_rfl) ?_ _
            refine NoPanic.normal ?_
            go_wp2_with fail
            go_meet
            exact ⟨_, (.slice al li.length cl), (.slice au (lb ty).length cu), rfl, (by have h : raw.size = 16 := (by have := has_eq HBH.out; omega); simp [ownQ, h]), hbx, hn.1, HL.out.new hn.1, HU.out.new hn.1⟩
          refine AllReadyH.cons (o := { dst := some 62, op := Op.load 9 (Operand.tmp 61), type := 9, pos := "instr.go:64", after := #[{ on := 4, ground := Ground.data }, { on := 1, ground := Ground.guard }], guard := some (1, true) }) rfl (fun K hK => ?_) AllReadyH.nil
          have z9 := cellAt hbx 9 (v := .string raw) rfl
          go_simp
          refine hK.out _ _ (by first | exact hn | exact Upd.alloc hn _) (fun hn => ?_)
          clear hK K
          try simp only [Act.put, List.setIfInBounds_toArray, List.set_cons_zero, List.set_cons_succ]
          refine wpAnyH_take (i := 6) (oi := { dst := some 63, op := Op.call { callee := Callee.builtin Builtin.len, args := #[Operand.tmp 62], argTypes := #[9] }, type := 3, pos := "instr.go:64", after := #[{ on := 5, ground := Ground.data }, { on := 1, ground := Ground.guard }], guard := some (1, true) }) (v := ?v32x19) rfl (by kernel_rfl) (by kernel_rfl) (by kernel_rfl) (fun _ _ _ h => h) (Or.inl ⟨by rfl, ?y32x19⟩) hn ?r32x19
          case y32x19 => (intro wS hS; (try go_simp); (try with_reducible rfl))
          try simp only [Act.put, List.setIfInBounds_toArray, List.set_cons_zero, List.set_cons_succ]
          refine wpAnyH_ready (rs := [3]) (by kernel_rfl) (by simp) ?_
          refine AllReadyH.cons (o := { dst := some 60, op := Op.call { callee := Callee.value (Operand.func 31), args := #[Operand.tmp 59], argTypes := #[66] }, type := 70, pos := "instr.go:64", after := #[{ on := 2, ground := Ground.data }, { on := 1, ground := Ground.chain }, { on := 1, ground := Ground.guard }], guard := some (1, true) }) rfl (fun K hK => ?_) AllReadyH.nil
          go_simp
          refine (HS2.out _ _).mono ?_
          rintro e wq ⟨rfl, hnq⟩
          go_wp2_with fail
          have hbx := hp1 hbx hnq
          have hn : (fun w' => New w w' ∧ w'.heap[wa.heap.size]? = some (.cells #[.int .i64 13, .int .i64 ln] 66)) wq := ⟨New.trans hn.1 hnq, hp1 hn.2 hnq⟩
          refine hK.out _ _ (by first | exact hn | exact Upd.alloc hn _) (fun hn => ?_)
          clear hK K
          try simp only [Act.put, List.setIfInBounds_toArray, List.set_cons_zero, List.set_cons_succ]
          refine wpAnyH_ready (rs := [7]) (by kernel_rfl) (by simp) ?_
          refine AllReadyH.cons (o := { dst := some 64, op := Op.call { callee := Callee.value (Operand.func 32), args := #[Operand.tmp 60, Operand.tmp 63], argTypes := #[70, 3] }, type := 4, pos := "instr.go:64", after := #[{ on := 3, ground := Ground.data }, { on := 6, ground := Ground.data }, { on := 3, ground := Ground.chain }, { on := 1, ground := Ground.guard }], guard := some (1, true) }) rfl (fun K hK => ?_) AllReadyH.nil
          go_simp
          refine (HH2.out _).mono ?_
          rintro e wr ⟨rfl, hnq⟩
          go_wp2_with fail
          have hbx := hp1 hbx hnq
          have hn : (fun w' => New w w' ∧ w'.heap[wa.heap.size]? = some (.cells #[.int .i64 13, .int .i64 ln] 66)) wr := ⟨New.trans hn.1 hnq, hp1 hn.2 hnq⟩
          refine hK.out _ _ (by first | exact hn | exact Upd.alloc hn _) (fun hn => ?_)
          clear hK K
          try simp only [Act.put, List.setIfInBounds_toArray, List.set_cons_zero, List.set_cons_succ]
          refine wpAnyH_take (i := 8) (oi := { dst := some 65, op := Op.pick (Operand.tmp 58) (Operand.tmp 64) (Operand.const (Value.bool false)), type := 4, pos := "instr.go:64", after := #[{ on := 1, ground := Ground.data }, { on := 7, ground := Ground.data }], guard := none }) (v := ?v32x20) rfl (by kernel_rfl) (by kernel_rfl) (by kernel_rfl) (fun _ _ _ h => h) (Or.inl ⟨by rfl, ?y32x20⟩) hn ?r32x20
          case y32x20 => (intro wS hS; (try go_simp); (try with_reducible rfl))
          try simp only [Act.put, List.setIfInBounds_toArray, List.set_cons_zero, List.set_cons_succ]
          refine wpAnyH_take (i := 9) (oi := { dst := some 66, op := Op.move (Operand.tmp 65), type := 4, pos := "instr.go:64", after := #[{ on := 8, ground := Ground.data }, { on := 7, ground := Ground.chain }], guard := none }) (v := ?v32x21) rfl (by kernel_rfl) (by kernel_rfl) (by kernel_rfl) (fun _ _ _ h => h) (Or.inl ⟨by rfl, ?y32x21⟩) hn ?r32x21
          case y32x21 => (intro wS hS; (try go_simp); (try with_reducible rfl))
          try simp only [Act.put, List.setIfInBounds_toArray, List.set_cons_zero, List.set_cons_succ]
          refine wpAnyH_take (i := 10) (oi := { dst := some 67, op := Op.fieldAddr 66 (Operand.tmp 3) 0, type := 0, pos := "instr.go:64", after := #[{ on := 9, ground := Ground.guard }], guard := some (9, true) }) (v := ?v32x22) rfl (by kernel_rfl) (by kernel_rfl) (by kernel_rfl) (fun _ _ _ h => h) (Or.inl ⟨by rfl, ?y32x22⟩) hn ?r32x22
          case y32x22 => (intro wS hS; (try go_simp); (try with_reducible rfl))
          try simp only [Act.put, List.setIfInBounds_toArray, List.set_cons_zero, List.set_cons_succ]
          refine wpAnyH_take (i := 11) (oi := { dst := some 68, op := Op.load 3 (Operand.tmp 67), type := 3, pos := "instr.go:64", after := #[{ on := 10, ground := Ground.data }, { on := 9, ground := Ground.guard }], guard := some (9, true) }) (v := ?v32x23) rfl (by kernel_rfl) (by kernel_rfl) (by kernel_rfl) (fun _ _ _ h => h) (Or.inl ⟨by rfl, ?y32x23⟩) hn ?r32x23
          case y32x23 => (intro wS hS; have c0 := cellAt hS.2 0 rfl; (try go_simp); (try with_reducible rfl))
          try simp only [Act.put, List.setIfInBounds_toArray, List.set_cons_zero, List.set_cons_succ]
          refine wpAnyH_take (i := 12) (oi := { dst := some 69, op := Op.binOp BinOp.neq 3 (Operand.tmp 68) (Operand.const (Value.int IntKind.i64 14)) 3, type := 4, pos := "instr.go:64", after := #[{ on := 11, ground := Ground.data }, { on := 9, ground := Ground.guard }], guard := some (9, true) }) (v := ?v32x24) rfl (by kernel_rfl) (by kernel_rfl) (by kernel_rfl) (fun _ _ _ h => h) (Or.inl ⟨by rfl, ?y32x24⟩) hn ?r32x24
          case y32x24 => (intro wS hS; (try go_simp); (try with_reducible rfl))
          try simp only [Act.put, List.setIfInBounds_toArray, List.set_cons_zero, List.set_cons_succ]
          refine wpAnyH_take (i := 13) (oi := { dst := some 70, op := Op.move (Operand.tmp 69), type := 4, pos := "instr.go:64", after := #[{ on := 12, ground := Ground.data }, { on := 9, ground := Ground.chain }, { on := 9, ground := Ground.guard }], guard := some (9, true) }) (v := ?v32x25) rfl (by kernel_rfl) (by kernel_rfl) (by kernel_rfl) (fun _ _ _ h => h) (Or.inl ⟨by rfl, ?y32x25⟩) hn ?r32x25
          case y32x25 => (intro wS hS; (try go_simp); (try with_reducible rfl))
          try simp only [Act.put, List.setIfInBounds_toArray, List.set_cons_zero, List.set_cons_succ]
          refine wpAnyH_take (i := 14) (oi := { dst := some 71, op := Op.fieldAddr 34 (Operand.tmp 1) 6, type := 0, pos := "instr.go:64", after := #[{ on := 13, ground := Ground.guard }], guard := some (13, false) }) (v := undef) rfl (by kernel_rfl) (by kernel_rfl) (by kernel_rfl) (fun _ _ _ h => h) (Or.inr ⟨by rfl, rfl⟩) hn ?_
          try simp only [Act.put, List.setIfInBounds_toArray, List.set_cons_zero, List.set_cons_succ]
          refine wpAnyH_take (i := 15) (oi := { dst := some 72, op := Op.load 9 (Operand.tmp 71), type := 9, pos := "instr.go:64", after := #[{ on := 14, ground := Ground.data }, { on := 13, ground := Ground.guard }], guard := some (13, false) }) (v := undef) rfl (by kernel_rfl) (by kernel_rfl) (by kernel_rfl) (fun _ _ _ h => h) (Or.inr ⟨by rfl, rfl⟩) hn ?_
          try simp only [Act.put, List.setIfInBounds_toArray, List.set_cons_zero, List.set_cons_succ]
          refine wpAnyH_take (i := 16) (oi := { dst := some 73, op := Op.call { callee := Callee.value (Operand.func 33), args := #[Operand.tmp 72], argTypes := #[9] }, type := 4, pos := "instr.go:64", after := #[{ on := 15, ground := Ground.data }, { on := 13, ground := Ground.chain }, { on := 13, ground := Ground.guard }], guard := some (13, false) }) (v := undef) rfl (by kernel_rfl) (by kernel_rfl) (by kernel_rfl) (fun _ _ _ h => h) (Or.inr ⟨by rfl, rfl⟩) hn ?_
          try simp only [Act.put, List.setIfInBounds_toArray, List.set_cons_zero, List.set_cons_succ]
          refine wpAnyH_take (i := 17) (oi := { dst := some 74, op := Op.pick (Operand.tmp 70) (Operand.const (Value.bool true)) (Operand.tmp 73), type := 4, pos := "instr.go:64", after := #[{ on := 13, ground := Ground.data }, { on := 16, ground := Ground.data }, { on := 9, ground := Ground.guard }], guard := some (9, true) }) (v := ?v32x29) rfl (by kernel_rfl) (by kernel_rfl) (by kernel_rfl) (fun _ _ _ h => h) (Or.inl ⟨by rfl, ?y32x29⟩) hn ?r32x29
          case y32x29 => (intro wS hS; (try go_simp); (try with_reducible rfl))
          try simp only [Act.put, List.setIfInBounds_toArray, List.set_cons_zero, List.set_cons_succ]
          refine wpAnyH_take (i := 18) (oi := { dst := some 75, op := Op.pick (Operand.tmp 66) (Operand.tmp 74) (Operand.const (Value.bool false)), type := 4, pos := "instr.go:64", after := #[{ on := 9, ground := Ground.data }, { on := 17, ground := Ground.data }], guard := none }) (v := ?v32x30) rfl (by kernel_rfl) (by kernel_rfl) (by kernel_rfl) (fun _ _ _ h => h) (Or.inl ⟨by rfl, ?y32x30⟩) hn ?r32x30
          case y32x30 => (intro wS hS; (try go_simp); (try with_reducible rfl))
          try simp only [Act.put, List.setIfInBounds_toArray, List.set_cons_zero, List.set_cons_succ]
          refine wpAnyH_take (i := 19) (oi := { dst := some 4, op := Op.assign (Operand.tmp 75), type := 4, pos := "instr.go:64", after := #[{ on := 18, ground := Ground.data }, { on := 16, ground := Ground.chain }, { on := 0, ground := Ground.phase }, { on := 1, ground := Ground.phase }, { on := 2, ground := Ground.phase }, { on := 3, ground := Ground.phase }, { on := 4, ground := Ground.phase }, { on := 5, ground := Ground.phase }, { on := 6, ground := Ground.phase }, { on := 7, ground := Ground.phase }, { on := 8, ground := Ground.phase }, { on := 9, ground := Ground.phase }, { on := 10, ground := Ground.phase }, { on := 11, ground := Ground.phase }, { on := 12, ground := Ground.phase }, { on := 13, ground := Ground.phase }, { on := 14, ground := Ground.phase }, { on := 15, ground := Ground.phase }, { on := 16, ground := Ground.phase }, { on := 17, ground := Ground.phase }, { on := 18, ground := Ground.phase }], guard := none }) (v := ?v32x31) rfl (by kernel_rfl) (by kernel_rfl) (by kernel_rfl) (fun _ _ _ h => h) (Or.inl ⟨by rfl, ?y32x31⟩) hn ?r32x31
          case y32x31 => (intro wS hS; (try go_simp); (try with_reducible rfl))
          try simp only [Act.put, List.setIfInBounds_toArray, List.set_cons_zero, List.set_cons_succ]
          refine wpAnyH_take (i := 20) (oi := { dst := some 76, op := Op.fieldAddr 34 (Operand.tmp 1) 6, type := 0, pos := "instr.go:64", after := #[{ on := 0, ground := Ground.phase }, { on := 1, ground := Ground.phase }, { on := 2, ground := Ground.phase }, { on := 3, ground := Ground.phase }, { on := 4, ground := Ground.phase }, { on := 5, ground := Ground.phase }, { on := 6, ground := Ground.phase }, { on := 7, ground := Ground.phase }, { on := 8, ground := Ground.phase }, { on := 9, ground := Ground.phase }, { on := 10, ground := Ground.phase }, { on := 11, ground := Ground.phase }, { on := 12, ground := Ground.phase }, { on := 13, ground := Ground.phase }, { on := 14, ground := Ground.phase }, { on := 15, ground := Ground.phase }, { on := 16, ground := Ground.phase }, { on := 17, ground := Ground.phase }, { on := 18, ground := Ground.phase }, { on := 19, ground := Ground.phase }], guard := none }) (v := ?v32x32) rfl (by kernel_rfl) (by kernel_rfl) (by kernel_rfl) (fun _ _ _ h => h) (Or.inl ⟨by rfl, ?y32x32⟩) hn ?r32x32
          case y32x32 => (intro wS hS; (try go_simp); (try with_reducible rfl))
          try simp only [Act.put, List.setIfInBounds_toArray, List.set_cons_zero, List.set_cons_succ]
          refine wpAnyH_ready (rs := [21]) (by kernel_rfl) (by simp) ?_
          refine AllReadyH.cons (o := { dst := none, op := Op.store 9 (Operand.tmp 76) (Operand.const (Value.string { data := #[] })), type := 0, pos := "instr.go:64", after := #[{ on := 20, ground := Ground.data }, { on := 19, ground := Ground.chain }, { on := 0, ground := Ground.phase }, { on := 1, ground := Ground.phase }, { on := 2, ground := Ground.phase }, { on := 3, ground := Ground.phase }, { on := 4, ground := Ground.phase }, { on := 5, ground := Ground.phase }, { on := 6, ground := Ground.phase }, { on := 7, ground := Ground.phase }, { on := 8, ground := Ground.phase }, { on := 9, ground := Ground.phase }, { on := 10, ground := Ground.phase }, { on := 11, ground := Ground.phase }, { on := 12, ground := Ground.phase }, { on := 13, ground := Ground.phase }, { on := 14, ground := Ground.phase }, { on := 15, ground := Ground.phase }, { on := 16, ground := Ground.phase }, { on := 17, ground := Ground.phase }, { on := 18, ground := Ground.phase }, { on := 19, ground := Ground.phase }], guard := none }) rfl (fun K hK => ?_) AllReadyH.nil
          have z9 := cellAt hbx 9 (v := .string raw) rfl
          have f9 := frozenAt hbx 9
          go_simp
          have hbx := hp_set hbx 9 (.string ⟨#[]⟩)
          have hn : (fun w' => New w w' ∧ w'.heap[wa.heap.size]? = some (.cells #[.int .i64 13, .int .i64 ln] 66)) (wr.setCell ⟨w.heap.size, 9, none⟩ (.string ⟨#[]⟩)) := ⟨setNew hn.1 9 _, hp_other hn.2 HNE.out⟩
          refine hK.out _ _ (by first | exact hn | exact Upd.alloc hn _) (fun hn => ?_)
          clear hK K
          try simp only [Act.put, List.setIfInBounds_toArray, List.set_cons_zero, List.set_cons_succ]
          refine wpAnyH_done (by kernel_rfl) ?_ _
          refine NoPanic.normal ?_
          go_wp2_with fail
          go_meet
          exact ⟨_, (.slice al li.length cl), (.slice au (lb ty).length cu), rfl, (by have h : raw.size = 16 := (by have := has_eq HBH.out; omega); simp [ownQ, h]), hbx, hn.1, HL.out.new hn.1, HU.out.new hn.1⟩
        | false =>
          have hn : (fun w' => New w w' ∧ w'.heap[wa.heap.size]? = some (.cells #[.int .i64 13, .int .i64 ln] 66)) wb.drew := ⟨HN.out.drew, HI.out⟩
          have hbx : Box wb.drew w.heap.size ⟨p, c, k, t, i, x, y, li, n, raw, lane, ty⟩ (.slice al li.length cl) (.slice au (lb ty).length cu) := HB.out
          clear y0 y1 z9 f9
          go_wp2_with fail
          refine wp_region_noPanic ?_
          refine wp_region_held_drew (S := (fun w' => New w w' ∧ w'.heap[wa.heap.size]? = some (.cells #[.int .i64 13, .int .i64 ln] 66))) (by kernel_rfl) (by first | exact hn | exact (Upd.refl _ _).drew | exact Upd.drew (by assumption)) (fun hn => ?_)
          generalize wb.drew = wd at *
          refine wpAnyH_take (i := 0) (oi := { dst := some 57, op := Op.move (Operand.tmp 4), type := 4, pos := "instr.go:64", after := #[], guard := none }) (v := ?v33x1) rfl (by kernel_rfl) (by kernel_rfl) (by kernel_rfl) (fun _ _ _ h => h) (Or.inl ⟨by rfl, ?y33x1⟩) hn ?r33x1
          case y33x1 => (intro wS hS; (try go_simp); (try with_reducible rfl))
          try simp only [Act.put, List.setIfInBounds_toArray, List.set_cons_zero, List.set_cons_succ]
          refine wpAnyH_take (i := 1) (oi := { dst := some 58, op := Op.move (Operand.tmp 57), type := 4, pos := "instr.go:64", after := #[{ on := 0, ground := Ground.data }], guard := none }) (v := ?v33x2) rfl (by kernel_rfl) (by kernel_rfl) (by kernel_rfl) (fun _ _ _ h => h) (Or.inl ⟨by rfl, ?y33x2⟩) hn ?r33x2
          case y33x2 => (intro wS hS; (try go_simp); (try with_reducible rfl))
          try simp only [Act.put, List.setIfInBounds_toArray, List.set_cons_zero, List.set_cons_succ]
          refine wpAnyH_take (i := 2) (oi := { dst := some 59, op := Op.load 66 (Operand.tmp 3), type := 66, pos := "instr.go:64", after := #[{ on := 1, ground := Ground.guard }], guard := some (1, true) }) (v := ?v33x3) rfl (by kernel_rfl) (by kernel_rfl) (by kernel_rfl) (fun _ _ _ h => h) (Or.inl ⟨by rfl, ?y33x3⟩) hn ?r33x3
          case y33x3 => (intro wS hS; have c0 := cellAt hS.2 0 rfl; have c1 := cellAt hS.2 1 rfl; (try go_simp); (try with_reducible rfl))
          try simp only [Act.put, List.setIfInBounds_toArray, List.set_cons_zero, List.set_cons_succ]
          refine wpAnyH_take (i := 4) (oi := { dst := some 61, op := Op.fieldAddr 34 (Operand.tmp 1) 6, type := 0, pos := "instr.go:64", after := #[{ on := 1, ground := Ground.guard }], guard := some (1, true) }) (v := ?v33x4) rfl (by kernel_rfl) (by kernel_rfl) (by kernel_rfl) (fun _ _ _ h => h) (Or.inl ⟨by rfl, ?y33x4⟩) hn ?r33x4
          case y33x4 => (intro wS hS; (try go_simp); (try with_reducible rfl))
          try simp only [Act.put, List.setIfInBounds_toArray, List.set_cons_zero, List.set_cons_succ]
          refine wpAnyH_ready (rs := [3, 5]) (by kernel_rfl) (by simp) ?_
          refine AllReadyH.cons (o := { dst := some 60, op := Op.call { callee := Callee.value (Operand.func 31), args := #[Operand.tmp 59], argTypes := #[66] }, type := 70, pos := "instr.go:64", after := #[{ on := 2, ground := Ground.data }, { on := 1, ground := Ground.chain }, { on := 1, ground := Ground.guard }], guard := some (1, true) }) rfl (fun K hK => ?_) ?_
          · skip
            go_simp
            refine (HS2.out _ _).mono ?_
            rintro e wq ⟨rfl, hnq⟩
            go_wp2_with fail
            have hbx := hp1 hbx hnq
            have hn : (fun w' => New w w' ∧ w'.heap[wa.heap.size]? = some (.cells #[.int .i64 13, .int .i64 ln] 66)) wq := ⟨New.trans hn.1 hnq, hp1 hn.2 hnq⟩
            refine hK.out _ _ (by first | exact hn | exact Upd.alloc hn _) (fun hn => ?_)
            clear hK K
            try simp only [Act.put, List.setIfInBounds_toArray, List.set_cons_zero, List.set_cons_succ]
            refine wpAnyH_ready (rs := [5]) (by kernel_rfl) (by simp) ?_
            refine AllReadyH.cons (o := { dst := some 62, op := Op.load 9 (Operand.tmp 61), type := 9, pos := "instr.go:64", after := #[{ on := 4, ground := Ground.data }, { on := 1, ground := Ground.guard }], guard := some (1, true) }) rfl (fun K hK => ?_) AllReadyH.nil
            have z9 := cellAt hbx 9 (v := .string raw) rfl
            go_simp
            refine hK.out _ _ (by first | exact hn | exact Upd.alloc hn _) (fun hn => ?_)
            clear hK K
            try simp only [Act.put, List.setIfInBounds_toArray, List.set_cons_zero, List.set_cons_succ]
            refine wpAnyH_take (i := 6) (oi := { dst := some 63, op := Op.call { callee := Callee.builtin Builtin.len, args := #[Operand.tmp 62], argTypes := #[9] }, type := 3, pos := "instr.go:64", after := #[{ on := 5, ground := Ground.data }, { on := 1, ground := Ground.guard }], guard := some (1, true) }) (v := ?v33x5) rfl (by kernel_rfl) (by kernel_rfl) (by kernel_rfl) (fun _ _ _ h => h) (Or.inl ⟨by rfl, ?y33x5⟩) hn ?r33x5
            case y33x5 => (intro wS hS; (try go_simp); (try with_reducible rfl))
            try simp only [Act.put, List.setIfInBounds_toArray, List.set_cons_zero, List.set_cons_succ]
            refine wpAnyH_ready (rs := [7]) (by kernel_rfl) (by simp) ?_
            refine AllReadyH.cons (o := { dst := some 64, op := Op.call { callee := Callee.value (Operand.func 32), args := #[Operand.tmp 60, Operand.tmp 63], argTypes := #[70, 3] }, type := 4, pos := "instr.go:64", after := #[{ on := 3, ground := Ground.data }, { on := 6, ground := Ground.data }, { on := 3, ground := Ground.chain }, { on := 1, ground := Ground.guard }], guard := some (1, true) }) rfl (fun K hK => ?_) AllReadyH.nil
            go_simp
            refine (HH2.out _).mono ?_
            rintro e wr ⟨rfl, hnq⟩
            go_wp2_with fail
            have hbx := hp1 hbx hnq
            have hn : (fun w' => New w w' ∧ w'.heap[wa.heap.size]? = some (.cells #[.int .i64 13, .int .i64 ln] 66)) wr := ⟨New.trans hn.1 hnq, hp1 hn.2 hnq⟩
            refine hK.out _ _ (by first | exact hn | exact Upd.alloc hn _) (fun hn => ?_)
            clear hK K
            try simp only [Act.put, List.setIfInBounds_toArray, List.set_cons_zero, List.set_cons_succ]
            refine wpAnyH_take (i := 8) (oi := { dst := some 65, op := Op.pick (Operand.tmp 58) (Operand.tmp 64) (Operand.const (Value.bool false)), type := 4, pos := "instr.go:64", after := #[{ on := 1, ground := Ground.data }, { on := 7, ground := Ground.data }], guard := none }) (v := ?v33x6) rfl (by kernel_rfl) (by kernel_rfl) (by kernel_rfl) (fun _ _ _ h => h) (Or.inl ⟨by rfl, ?y33x6⟩) hn ?r33x6
            case y33x6 => (intro wS hS; (try go_simp); (try with_reducible rfl))
            try simp only [Act.put, List.setIfInBounds_toArray, List.set_cons_zero, List.set_cons_succ]
            refine wpAnyH_take (i := 9) (oi := { dst := some 66, op := Op.move (Operand.tmp 65), type := 4, pos := "instr.go:64", after := #[{ on := 8, ground := Ground.data }, { on := 7, ground := Ground.chain }], guard := none }) (v := ?v33x7) rfl (by kernel_rfl) (by kernel_rfl) (by kernel_rfl) (fun _ _ _ h => h) (Or.inl ⟨by rfl, ?y33x7⟩) hn ?r33x7
            case y33x7 => (intro wS hS; (try go_simp); (try with_reducible rfl))
            try simp only [Act.put, List.setIfInBounds_toArray, List.set_cons_zero, List.set_cons_succ]
            refine wpAnyH_take (i := 10) (oi := { dst := some 67, op := Op.fieldAddr 66 (Operand.tmp 3) 0, type := 0, pos := "instr.go:64", after := #[{ on := 9, ground := Ground.guard }], guard := some (9, true) }) (v := undef) rfl (by kernel_rfl) (by kernel_rfl) (by kernel_rfl) (fun _ _ _ h => h) (Or.inr ⟨by rfl, rfl⟩) hn ?_
            try simp only [Act.put, List.setIfInBounds_toArray, List.set_cons_zero, List.set_cons_succ]
            refine wpAnyH_take (i := 11) (oi := { dst := some 68, op := Op.load 3 (Operand.tmp 67), type := 3, pos := "instr.go:64", after := #[{ on := 10, ground := Ground.data }, { on := 9, ground := Ground.guard }], guard := some (9, true) }) (v := undef) rfl (by kernel_rfl) (by kernel_rfl) (by kernel_rfl) (fun _ _ _ h => h) (Or.inr ⟨by rfl, rfl⟩) hn ?_
            try simp only [Act.put, List.setIfInBounds_toArray, List.set_cons_zero, List.set_cons_succ]
            refine wpAnyH_take (i := 12) (oi := { dst := some 69, op := Op.binOp BinOp.neq 3 (Operand.tmp 68) (Operand.const (Value.int IntKind.i64 14)) 3, type := 4, pos := "instr.go:64", after := #[{ on := 11, ground := Ground.data }, { on := 9, ground := Ground.guard }], guard := some (9, true) }) (v := undef) rfl (by kernel_rfl) (by kernel_rfl) (by kernel_rfl) (fun _ _ _ h => h) (Or.inr ⟨by rfl, rfl⟩) hn ?_
            try simp only [Act.put, List.setIfInBounds_toArray, List.set_cons_zero, List.set_cons_succ]
            refine wpAnyH_take (i := 13) (oi := { dst := some 70, op := Op.move (Operand.tmp 69), type := 4, pos := "instr.go:64", after := #[{ on := 12, ground := Ground.data }, { on := 9, ground := Ground.chain }, { on := 9, ground := Ground.guard }], guard := some (9, true) }) (v := undef) rfl (by kernel_rfl) (by kernel_rfl) (by kernel_rfl) (fun _ _ _ h => h) (Or.inr ⟨by rfl, rfl⟩) hn ?_
            try simp only [Act.put, List.setIfInBounds_toArray, List.set_cons_zero, List.set_cons_succ]
            refine wpAnyH_take (i := 14) (oi := { dst := some 71, op := Op.fieldAddr 34 (Operand.tmp 1) 6, type := 0, pos := "instr.go:64", after := #[{ on := 13, ground := Ground.guard }], guard := some (13, false) }) (v := undef) rfl (by kernel_rfl) (by kernel_rfl) (by kernel_rfl) (fun _ _ _ h => h) (Or.inr ⟨by rfl, rfl⟩) hn ?_
            try simp only [Act.put, List.setIfInBounds_toArray, List.set_cons_zero, List.set_cons_succ]
            refine wpAnyH_take (i := 15) (oi := { dst := some 72, op := Op.load 9 (Operand.tmp 71), type := 9, pos := "instr.go:64", after := #[{ on := 14, ground := Ground.data }, { on := 13, ground := Ground.guard }], guard := some (13, false) }) (v := undef) rfl (by kernel_rfl) (by kernel_rfl) (by kernel_rfl) (fun _ _ _ h => h) (Or.inr ⟨by rfl, rfl⟩) hn ?_
            try simp only [Act.put, List.setIfInBounds_toArray, List.set_cons_zero, List.set_cons_succ]
            refine wpAnyH_take (i := 16) (oi := { dst := some 73, op := Op.call { callee := Callee.value (Operand.func 33), args := #[Operand.tmp 72], argTypes := #[9] }, type := 4, pos := "instr.go:64", after := #[{ on := 15, ground := Ground.data }, { on := 13, ground := Ground.chain }, { on := 13, ground := Ground.guard }], guard := some (13, false) }) (v := undef) rfl (by kernel_rfl) (by kernel_rfl) (by kernel_rfl) (fun _ _ _ h => h) (Or.inr ⟨by rfl, rfl⟩) hn ?_
            try simp only [Act.put, List.setIfInBounds_toArray, List.set_cons_zero, List.set_cons_succ]
            refine wpAnyH_take (i := 17) (oi := { dst := some 74, op := Op.pick (Operand.tmp 70) (Operand.const (Value.bool true)) (Operand.tmp 73), type := 4, pos := "instr.go:64", after := #[{ on := 13, ground := Ground.data }, { on := 16, ground := Ground.data }, { on := 9, ground := Ground.guard }], guard := some (9, true) }) (v := undef) rfl (by kernel_rfl) (by kernel_rfl) (by kernel_rfl) (fun _ _ _ h => h) (Or.inr ⟨by rfl, rfl⟩) hn ?_
            try simp only [Act.put, List.setIfInBounds_toArray, List.set_cons_zero, List.set_cons_succ]
            refine wpAnyH_take (i := 18) (oi := { dst := some 75, op := Op.pick (Operand.tmp 66) (Operand.tmp 74) (Operand.const (Value.bool false)), type := 4, pos := "instr.go:64", after := #[{ on := 9, ground := Ground.data }, { on := 17, ground := Ground.data }], guard := none }) (v := ?v33x16) rfl (by kernel_rfl) (by kernel_rfl) (by kernel_rfl) (fun _ _ _ h => h) (Or.inl ⟨by rfl, ?y33x16⟩) hn ?r33x16
            case y33x16 => (intro wS hS; (try go_simp); (try with_reducible rfl))
            try simp only [Act.put, List.setIfInBounds_toArray, List.set_cons_zero, List.set_cons_succ]
            refine wpAnyH_take (i := 19) (oi := { dst := some 4, op := Op.assign (Operand.tmp 75), type := 4, pos := "instr.go:64", after := #[{ on := 18, ground := Ground.data }, { on := 16, ground := Ground.chain }, { on := 0, ground := Ground.phase }, { on := 1, ground := Ground.phase }, { on := 2, ground := Ground.phase }, { on := 3, ground := Ground.phase }, { on := 4, ground := Ground.phase }, { on := 5, ground := Ground.phase }, { on := 6, ground := Ground.phase }, { on := 7, ground := Ground.phase }, { on := 8, ground := Ground.phase }, { on := 9, ground := Ground.phase }, { on := 10, ground := Ground.phase }, { on := 11, ground := Ground.phase }, { on := 12, ground := Ground.phase }, { on := 13, ground := Ground.phase }, { on := 14, ground := Ground.phase }, { on := 15, ground := Ground.phase }, { on := 16, ground := Ground.phase }, { on := 17, ground := Ground.phase }, { on := 18, ground := Ground.phase }], guard := none }) (v := ?v33x17) rfl (by kernel_rfl) (by kernel_rfl) (by kernel_rfl) (fun _ _ _ h => h) (Or.inl ⟨by rfl, ?y33x17⟩) hn ?r33x17
            case y33x17 => (intro wS hS; (try go_simp); (try with_reducible rfl))
            try simp only [Act.put, List.setIfInBounds_toArray, List.set_cons_zero, List.set_cons_succ]
            refine wpAnyH_take (i := 20) (oi := { dst := some 76, op := Op.fieldAddr 34 (Operand.tmp 1) 6, type := 0, pos := "instr.go:64", after := #[{ on := 0, ground := Ground.phase }, { on := 1, ground := Ground.phase }, { on := 2, ground := Ground.phase }, { on := 3, ground := Ground.phase }, { on := 4, ground := Ground.phase }, { on := 5, ground := Ground.phase }, { on := 6, ground := Ground.phase }, { on := 7, ground := Ground.phase }, { on := 8, ground := Ground.phase }, { on := 9, ground := Ground.phase }, { on := 10, ground := Ground.phase }, { on := 11, ground := Ground.phase }, { on := 12, ground := Ground.phase }, { on := 13, ground := Ground.phase }, { on := 14, ground := Ground.phase }, { on := 15, ground := Ground.phase }, { on := 16, ground := Ground.phase }, { on := 17, ground := Ground.phase }, { on := 18, ground := Ground.phase }, { on := 19, ground := Ground.phase }], guard := none }) (v := ?v33x18) rfl (by kernel_rfl) (by kernel_rfl) (by kernel_rfl) (fun _ _ _ h => h) (Or.inl ⟨by rfl, ?y33x18⟩) hn ?r33x18
            case y33x18 => (intro wS hS; (try go_simp); (try with_reducible rfl))
            try simp only [Act.put, List.setIfInBounds_toArray, List.set_cons_zero, List.set_cons_succ]
            refine wpAnyH_ready (rs := [21]) (by kernel_rfl) (by simp) ?_
            refine AllReadyH.cons (o := { dst := none, op := Op.store 9 (Operand.tmp 76) (Operand.const (Value.string { data := #[] })), type := 0, pos := "instr.go:64", after := #[{ on := 20, ground := Ground.data }, { on := 19, ground := Ground.chain }, { on := 0, ground := Ground.phase }, { on := 1, ground := Ground.phase }, { on := 2, ground := Ground.phase }, { on := 3, ground := Ground.phase }, { on := 4, ground := Ground.phase }, { on := 5, ground := Ground.phase }, { on := 6, ground := Ground.phase }, { on := 7, ground := Ground.phase }, { on := 8, ground := Ground.phase }, { on := 9, ground := Ground.phase }, { on := 10, ground := Ground.phase }, { on := 11, ground := Ground.phase }, { on := 12, ground := Ground.phase }, { on := 13, ground := Ground.phase }, { on := 14, ground := Ground.phase }, { on := 15, ground := Ground.phase }, { on := 16, ground := Ground.phase }, { on := 17, ground := Ground.phase }, { on := 18, ground := Ground.phase }, { on := 19, ground := Ground.phase }], guard := none }) rfl (fun K hK => ?_) AllReadyH.nil
            have z9 := cellAt hbx 9 (v := .string raw) rfl
            have f9 := frozenAt hbx 9
            go_simp
            have hbx := hp_set hbx 9 (.string ⟨#[]⟩)
            have hn : (fun w' => New w w' ∧ w'.heap[wa.heap.size]? = some (.cells #[.int .i64 13, .int .i64 ln] 66)) (wr.setCell ⟨w.heap.size, 9, none⟩ (.string ⟨#[]⟩)) := ⟨setNew hn.1 9 _, hp_other hn.2 HNE.out⟩
            refine hK.out _ _ (by first | exact hn | exact Upd.alloc hn _) (fun hn => ?_)
            clear hK K
            try simp only [Act.put, List.setIfInBounds_toArray, List.set_cons_zero, List.set_cons_succ]
            refine wpAnyH_done (by kernel_rfl) ?_ _
            refine NoPanic.normal ?_
            go_wp2_with fail
            go_meet
            exact ⟨_, (.slice al li.length cl), (.slice au (lb ty).length cu), rfl, (by have h := has_ne HBH.out; simp [ownQ, h]), hbx, hn.1, HL.out.new hn.1, HU.out.new hn.1⟩
          refine AllReadyH.cons (o := { dst := some 62, op := Op.load 9 (Operand.tmp 61), type := 9, pos := "instr.go:64", after := #[{ on := 4, ground := Ground.data }, { on := 1, ground := Ground.guard }], guard := some (1, true) }) rfl (fun K hK => ?_) AllReadyH.nil
          have z9 := cellAt hbx 9 (v := .string raw) rfl
          go_simp
          refine hK.out _ _ (by first | exact hn | exact Upd.alloc hn _) (fun hn => ?_)
          clear hK K
          try simp only [Act.put, List.setIfInBounds_toArray, List.set_cons_zero, List.set_cons_succ]
          refine wpAnyH_take (i := 6) (oi := { dst := some 63, op := Op.call { callee := Callee.builtin Builtin.len, args := #[Operand.tmp 62], argTypes := #[9] }, type := 3, pos := "instr.go:64", after := #[{ on := 5, ground := Ground.data }, { on := 1, ground := Ground.guard }], guard := some (1, true) }) (v := ?v33x19) rfl (by kernel_rfl) (by kernel_rfl) (by kernel_rfl) (fun _ _ _ h => h) (Or.inl ⟨by rfl, ?y33x19⟩) hn ?r33x19
          case y33x19 => (intro wS hS; (try go_simp); (try with_reducible rfl))
          try simp only [Act.put, List.setIfInBounds_toArray, List.set_cons_zero, List.set_cons_succ]
          refine wpAnyH_ready (rs := [3]) (by kernel_rfl) (by simp) ?_
          refine AllReadyH.cons (o := { dst := some 60, op := Op.call { callee := Callee.value (Operand.func 31), args := #[Operand.tmp 59], argTypes := #[66] }, type := 70, pos := "instr.go:64", after := #[{ on := 2, ground := Ground.data }, { on := 1, ground := Ground.chain }, { on := 1, ground := Ground.guard }], guard := some (1, true) }) rfl (fun K hK => ?_) AllReadyH.nil
          go_simp
          refine (HS2.out _ _).mono ?_
          rintro e wq ⟨rfl, hnq⟩
          go_wp2_with fail
          have hbx := hp1 hbx hnq
          have hn : (fun w' => New w w' ∧ w'.heap[wa.heap.size]? = some (.cells #[.int .i64 13, .int .i64 ln] 66)) wq := ⟨New.trans hn.1 hnq, hp1 hn.2 hnq⟩
          refine hK.out _ _ (by first | exact hn | exact Upd.alloc hn _) (fun hn => ?_)
          clear hK K
          try simp only [Act.put, List.setIfInBounds_toArray, List.set_cons_zero, List.set_cons_succ]
          refine wpAnyH_ready (rs := [7]) (by kernel_rfl) (by simp) ?_
          refine AllReadyH.cons (o := { dst := some 64, op := Op.call { callee := Callee.value (Operand.func 32), args := #[Operand.tmp 60, Operand.tmp 63], argTypes := #[70, 3] }, type := 4, pos := "instr.go:64", after := #[{ on := 3, ground := Ground.data }, { on := 6, ground := Ground.data }, { on := 3, ground := Ground.chain }, { on := 1, ground := Ground.guard }], guard := some (1, true) }) rfl (fun K hK => ?_) AllReadyH.nil
          go_simp
          refine (HH2.out _).mono ?_
          rintro e wr ⟨rfl, hnq⟩
          go_wp2_with fail
          have hbx := hp1 hbx hnq
          have hn : (fun w' => New w w' ∧ w'.heap[wa.heap.size]? = some (.cells #[.int .i64 13, .int .i64 ln] 66)) wr := ⟨New.trans hn.1 hnq, hp1 hn.2 hnq⟩
          refine hK.out _ _ (by first | exact hn | exact Upd.alloc hn _) (fun hn => ?_)
          clear hK K
          try simp only [Act.put, List.setIfInBounds_toArray, List.set_cons_zero, List.set_cons_succ]
          refine wpAnyH_take (i := 8) (oi := { dst := some 65, op := Op.pick (Operand.tmp 58) (Operand.tmp 64) (Operand.const (Value.bool false)), type := 4, pos := "instr.go:64", after := #[{ on := 1, ground := Ground.data }, { on := 7, ground := Ground.data }], guard := none }) (v := ?v33x20) rfl (by kernel_rfl) (by kernel_rfl) (by kernel_rfl) (fun _ _ _ h => h) (Or.inl ⟨by rfl, ?y33x20⟩) hn ?r33x20
          case y33x20 => (intro wS hS; (try go_simp); (try with_reducible rfl))
          try simp only [Act.put, List.setIfInBounds_toArray, List.set_cons_zero, List.set_cons_succ]
          refine wpAnyH_take (i := 9) (oi := { dst := some 66, op := Op.move (Operand.tmp 65), type := 4, pos := "instr.go:64", after := #[{ on := 8, ground := Ground.data }, { on := 7, ground := Ground.chain }], guard := none }) (v := ?v33x21) rfl (by kernel_rfl) (by kernel_rfl) (by kernel_rfl) (fun _ _ _ h => h) (Or.inl ⟨by rfl, ?y33x21⟩) hn ?r33x21
          case y33x21 => (intro wS hS; (try go_simp); (try with_reducible rfl))
          try simp only [Act.put, List.setIfInBounds_toArray, List.set_cons_zero, List.set_cons_succ]
          refine wpAnyH_take (i := 10) (oi := { dst := some 67, op := Op.fieldAddr 66 (Operand.tmp 3) 0, type := 0, pos := "instr.go:64", after := #[{ on := 9, ground := Ground.guard }], guard := some (9, true) }) (v := undef) rfl (by kernel_rfl) (by kernel_rfl) (by kernel_rfl) (fun _ _ _ h => h) (Or.inr ⟨by rfl, rfl⟩) hn ?_
          try simp only [Act.put, List.setIfInBounds_toArray, List.set_cons_zero, List.set_cons_succ]
          refine wpAnyH_take (i := 11) (oi := { dst := some 68, op := Op.load 3 (Operand.tmp 67), type := 3, pos := "instr.go:64", after := #[{ on := 10, ground := Ground.data }, { on := 9, ground := Ground.guard }], guard := some (9, true) }) (v := undef) rfl (by kernel_rfl) (by kernel_rfl) (by kernel_rfl) (fun _ _ _ h => h) (Or.inr ⟨by rfl, rfl⟩) hn ?_
          try simp only [Act.put, List.setIfInBounds_toArray, List.set_cons_zero, List.set_cons_succ]
          refine wpAnyH_take (i := 12) (oi := { dst := some 69, op := Op.binOp BinOp.neq 3 (Operand.tmp 68) (Operand.const (Value.int IntKind.i64 14)) 3, type := 4, pos := "instr.go:64", after := #[{ on := 11, ground := Ground.data }, { on := 9, ground := Ground.guard }], guard := some (9, true) }) (v := undef) rfl (by kernel_rfl) (by kernel_rfl) (by kernel_rfl) (fun _ _ _ h => h) (Or.inr ⟨by rfl, rfl⟩) hn ?_
          try simp only [Act.put, List.setIfInBounds_toArray, List.set_cons_zero, List.set_cons_succ]
          refine wpAnyH_take (i := 13) (oi := { dst := some 70, op := Op.move (Operand.tmp 69), type := 4, pos := "instr.go:64", after := #[{ on := 12, ground := Ground.data }, { on := 9, ground := Ground.chain }, { on := 9, ground := Ground.guard }], guard := some (9, true) }) (v := undef) rfl (by kernel_rfl) (by kernel_rfl) (by kernel_rfl) (fun _ _ _ h => h) (Or.inr ⟨by rfl, rfl⟩) hn ?_
          try simp only [Act.put, List.setIfInBounds_toArray, List.set_cons_zero, List.set_cons_succ]
          refine wpAnyH_take (i := 14) (oi := { dst := some 71, op := Op.fieldAddr 34 (Operand.tmp 1) 6, type := 0, pos := "instr.go:64", after := #[{ on := 13, ground := Ground.guard }], guard := some (13, false) }) (v := undef) rfl (by kernel_rfl) (by kernel_rfl) (by kernel_rfl) (fun _ _ _ h => h) (Or.inr ⟨by rfl, rfl⟩) hn ?_
          try simp only [Act.put, List.setIfInBounds_toArray, List.set_cons_zero, List.set_cons_succ]
          refine wpAnyH_take (i := 15) (oi := { dst := some 72, op := Op.load 9 (Operand.tmp 71), type := 9, pos := "instr.go:64", after := #[{ on := 14, ground := Ground.data }, { on := 13, ground := Ground.guard }], guard := some (13, false) }) (v := undef) rfl (by kernel_rfl) (by kernel_rfl) (by kernel_rfl) (fun _ _ _ h => h) (Or.inr ⟨by rfl, rfl⟩) hn ?_
          try simp only [Act.put, List.setIfInBounds_toArray, List.set_cons_zero, List.set_cons_succ]
          refine wpAnyH_take (i := 16) (oi := { dst := some 73, op := Op.call { callee := Callee.value (Operand.func 33), args := #[Operand.tmp 72], argTypes := #[9] }, type := 4, pos := "instr.go:64", after := #[{ on := 15, ground := Ground.data }, { on := 13, ground := Ground.chain }, { on := 13, ground := Ground.guard }], guard := some (13, false) }) (v := undef) rfl (by kernel_rfl) (by kernel_rfl) (by kernel_rfl) (fun _ _ _ h => h) (Or.inr ⟨by rfl, rfl⟩) hn ?_
          try simp only [Act.put, List.setIfInBounds_toArray, List.set_cons_zero, List.set_cons_succ]
          refine wpAnyH_take (i := 17) (oi := { dst := some 74, op := Op.pick (Operand.tmp 70) (Operand.const (Value.bool true)) (Operand.tmp 73), type := 4, pos := "instr.go:64", after := #[{ on := 13, ground := Ground.data }, { on := 16, ground := Ground.data }, { on := 9, ground := Ground.guard }], guard := some (9, true) }) (v := undef) rfl (by kernel_rfl) (by kernel_rfl) (by kernel_rfl) (fun _ _ _ h => h) (Or.inr ⟨by rfl, rfl⟩) hn ?_
          try simp only [Act.put, List.setIfInBounds_toArray, List.set_cons_zero, List.set_cons_succ]
          refine wpAnyH_take (i := 18) (oi := { dst := some 75, op := Op.pick (Operand.tmp 66) (Operand.tmp 74) (Operand.const (Value.bool false)), type := 4, pos := "instr.go:64", after := #[{ on := 9, ground := Ground.data }, { on := 17, ground := Ground.data }], guard := none }) (v := ?v33x30) rfl (by kernel_rfl) (by kernel_rfl) (by kernel_rfl) (fun _ _ _ h => h) (Or.inl ⟨by rfl, ?y33x30⟩) hn ?r33x30
          case y33x30 => (intro wS hS; (try go_simp); (try with_reducible rfl))
          try simp only [Act.put, List.setIfInBounds_toArray, List.set_cons_zero, List.set_cons_succ]
          refine wpAnyH_take (i := 19) (oi := { dst := some 4, op := Op.assign (Operand.tmp 75), type := 4, pos := "instr.go:64", after := #[{ on := 18, ground := Ground.data }, { on := 16, ground := Ground.chain }, { on := 0, ground := Ground.phase }, { on := 1, ground := Ground.phase }, { on := 2, ground := Ground.phase }, { on := 3, ground := Ground.phase }, { on := 4, ground := Ground.phase }, { on := 5, ground := Ground.phase }, { on := 6, ground := Ground.phase }, { on := 7, ground := Ground.phase }, { on := 8, ground := Ground.phase }, { on := 9, ground := Ground.phase }, { on := 10, ground := Ground.phase }, { on := 11, ground := Ground.phase }, { on := 12, ground := Ground.phase }, { on := 13, ground := Ground.phase }, { on := 14, ground := Ground.phase }, { on := 15, ground := Ground.phase }, { on := 16, ground := Ground.phase }, { on := 17, ground := Ground.phase }, { on := 18, ground := Ground.phase }], guard := none }) (v := ?v33x31) rfl (by kernel_rfl) (by kernel_rfl) (by kernel_rfl) (fun _ _ _ h => h) (Or.inl ⟨by rfl, ?y33x31⟩) hn ?r33x31
          case y33x31 => (intro wS hS; (try go_simp); (try with_reducible rfl))
          try simp only [Act.put, List.setIfInBounds_toArray, List.set_cons_zero, List.set_cons_succ]
          refine wpAnyH_take (i := 20) (oi := { dst := some 76, op := Op.fieldAddr 34 (Operand.tmp 1) 6, type := 0, pos := "instr.go:64", after := #[{ on := 0, ground := Ground.phase }, { on := 1, ground := Ground.phase }, { on := 2, ground := Ground.phase }, { on := 3, ground := Ground.phase }, { on := 4, ground := Ground.phase }, { on := 5, ground := Ground.phase }, { on := 6, ground := Ground.phase }, { on := 7, ground := Ground.phase }, { on := 8, ground := Ground.phase }, { on := 9, ground := Ground.phase }, { on := 10, ground := Ground.phase }, { on := 11, ground := Ground.phase }, { on := 12, ground := Ground.phase }, { on := 13, ground := Ground.phase }, { on := 14, ground := Ground.phase }, { on := 15, ground := Ground.phase }, { on := 16, ground := Ground.phase }, { on := 17, ground := Ground.phase }, { on := 18, ground := Ground.phase }, { on := 19, ground := Ground.phase }], guard := none }) (v := ?v33x32) rfl (by kernel_rfl) (by kernel_rfl) (by kernel_rfl) (fun _ _ _ h => h) (Or.inl ⟨by rfl, ?y33x32⟩) hn ?r33x32
          case y33x32 => (intro wS hS; (try go_simp); (try with_reducible rfl))
          try simp only [Act.put, List.setIfInBounds_toArray, List.set_cons_zero, List.set_cons_succ]
          refine wpAnyH_ready (rs := [21]) (by kernel_rfl) (by simp) ?_
          refine AllReadyH.cons (o := { dst := none, op := Op.store 9 (Operand.tmp 76) (Operand.const (Value.string { data := #[] })), type := 0, pos := "instr.go:64", after := #[{ on := 20, ground := Ground.data }, { on := 19, ground := Ground.chain }, { on := 0, ground := Ground.phase }, { on := 1, ground := Ground.phase }, { on := 2, ground := Ground.phase }, { on := 3, ground := Ground.phase }, { on := 4, ground := Ground.phase }, { on := 5, ground := Ground.phase }, { on := 6, ground := Ground.phase }, { on := 7, ground := Ground.phase }, { on := 8, ground := Ground.phase }, { on := 9, ground := Ground.phase }, { on := 10, ground := Ground.phase }, { on := 11, ground := Ground.phase }, { on := 12, ground := Ground.phase }, { on := 13, ground := Ground.phase }, { on := 14, ground := Ground.phase }, { on := 15, ground := Ground.phase }, { on := 16, ground := Ground.phase }, { on := 17, ground := Ground.phase }, { on := 18, ground := Ground.phase }, { on := 19, ground := Ground.phase }], guard := none }) rfl (fun K hK => ?_) AllReadyH.nil
          have z9 := cellAt hbx 9 (v := .string raw) rfl
          have f9 := frozenAt hbx 9
          go_simp
          have hbx := hp_set hbx 9 (.string ⟨#[]⟩)
          have hn : (fun w' => New w w' ∧ w'.heap[wa.heap.size]? = some (.cells #[.int .i64 13, .int .i64 ln] 66)) (wr.setCell ⟨w.heap.size, 9, none⟩ (.string ⟨#[]⟩)) := ⟨setNew hn.1 9 _, hp_other hn.2 HNE.out⟩
          refine hK.out _ _ (by first | exact hn | exact Upd.alloc hn _) (fun hn => ?_)
          clear hK K
          try simp only [Act.put, List.setIfInBounds_toArray, List.set_cons_zero, List.set_cons_succ]
          refine wpAnyH_done (by kernel_rfl) ?_ _
          refine NoPanic.normal ?_
          go_wp2_with fail
          go_meet
          exact ⟨_, (.slice al li.length cl), (.slice au (lb ty).length cu), rfl, (by have h := has_ne HBH.out; simp [ownQ, h]), hbx, hn.1, HL.out.new hn.1, HU.out.new hn.1⟩
      · -- 14
        have HS2 := hid (fun l w => HSP.out 14 l w)
        rw [spanV_14] at HS2
        have HH2 := hid (fun w => HHA.out 16 16 raw.size w)
        obtain ⟨bh, hbh⟩ : ∃ bh, Span.has 16 16 raw.size = bh := ⟨_, rfl⟩
        rw [hbh] at HH2
        have y0 : wb.cell? ⟨wa.heap.size, 0, none⟩ = some (.int .i64 14) := cellAt HI.out 0 rfl
        have y1 : wb.cell? ⟨wa.heap.size, 1, none⟩ = some (.int .i64 ln) := cellAt HI.out 1 rfl
        have z9 : wb.cell? ⟨w.heap.size, 9, none⟩ = some (.string raw) := cellAt HB.out 9 rfl
        have f9 : wb.frozen? ⟨w.heap.size, 9, none⟩ = false := frozenAt HB.out 9
        have HBH := hid hbh
        clear hbh
        cases bh with
        | true =>
          have hn : (fun w' => New w w' ∧ w'.heap[wa.heap.size]? = some (.cells #[.int .i64 14, .int .i64 ln] 66)) wb.drew := ⟨HN.out.drew, HI.out⟩
          have hbx : Box wb.drew w.heap.size ⟨p, c, k, t, i, x, y, li, n, raw, lane, ty⟩ (.slice al li.length cl) (.slice au (lb ty).length cu) := HB.out
          clear y0 y1 z9 f9
          go_wp2_with fail
          refine wp_region_noPanic ?_
          refine wp_region_held_drew (S := (fun w' => New w w' ∧ w'.heap[wa.heap.size]? = some (.cells #[.int .i64 14, .int .i64 ln] 66))) (by kernel_rfl) (by first | exact hn | exact (Upd.refl _ _).drew | exact Upd.drew (by assumption)) (fun hn => ?_)
          generalize wb.drew = wd at *
          refine wpAnyH_take (i := 0) (oi := { dst := some 57, op := Op.move (Operand.tmp 4), type := 4, pos := "instr.go:64", after := #[], guard := none }) (v := ?v34x1) rfl (by kernel_rfl) (by kernel_rfl) (by kernel_rfl) (fun _ _ _ h => h) (Or.inl ⟨by rfl, ?y34x1⟩) hn ?r34x1
          case y34x1 => (intro wS hS; (try go_simp); (try with_reducible rfl))
          try simp only [Act.put, List.setIfInBounds_toArray, List.set_cons_zero, List.set_cons_succ]
          refine wpAnyH_take (i := 1) (oi := { dst := some 58, op := Op.move (Operand.tmp 57), type := 4, pos := "instr.go:64", after := #[{ on := 0, ground := Ground.data }], guard := none }) (v := ?v34x2) rfl (by kernel_rfl) (by kernel_rfl) (by kernel_rfl) (fun _ _ _ h => h) (Or.inl ⟨by rfl, ?y34x2⟩) hn ?r34x2
          case y34x2 => (intro wS hS; (try go_simp); (try with_reducible rfl))
          try simp only [Act.put, List.setIfInBounds_toArray, List.set_cons_zero, List.set_cons_succ]
          refine wpAnyH_take (i := 2) (oi := { dst := some 59, op := Op.load 66 (Operand.tmp 3), type := 66, pos := "instr.go:64", after := #[{ on := 1, ground := Ground.guard }], guard := some (1, true) }) (v := ?v34x3) rfl (by kernel_rfl) (by kernel_rfl) (by kernel_rfl) (fun _ _ _ h => h) (Or.inl ⟨by rfl, ?y34x3⟩) hn ?r34x3
          case y34x3 => (intro wS hS; have c0 := cellAt hS.2 0 rfl; have c1 := cellAt hS.2 1 rfl; (try go_simp); (try with_reducible rfl))
          try simp only [Act.put, List.setIfInBounds_toArray, List.set_cons_zero, List.set_cons_succ]
          refine wpAnyH_take (i := 4) (oi := { dst := some 61, op := Op.fieldAddr 34 (Operand.tmp 1) 6, type := 0, pos := "instr.go:64", after := #[{ on := 1, ground := Ground.guard }], guard := some (1, true) }) (v := ?v34x4) rfl (by kernel_rfl) (by kernel_rfl) (by kernel_rfl) (fun _ _ _ h => h) (Or.inl ⟨by rfl, ?y34x4⟩) hn ?r34x4
          case y34x4 => (intro wS hS; (try go_simp); (try with_reducible rfl))
          try simp only [Act.put, List.setIfInBounds_toArray, List.set_cons_zero, List.set_cons_succ]
          refine wpAnyH_ready (rs := [3, 5]) (by kernel_rfl) (by simp) ?_
          refine AllReadyH.cons (o := { dst := some 60, op := Op.call { callee := Callee.value (Operand.func 31), args := #[Operand.tmp 59], argTypes := #[66] }, type := 70, pos := "instr.go:64", after := #[{ on := 2, ground := Ground.data }, { on := 1, ground := Ground.chain }, { on := 1, ground := Ground.guard }], guard := some (1, true) }) rfl (fun K hK => ?_) ?_
          · skip
            go_simp
            refine (HS2.out _ _).mono ?_
            rintro e wq ⟨rfl, hnq⟩
            go_wp2_with fail
            have hbx := hp1 hbx hnq
            have hn : (fun w' => New w w' ∧ w'.heap[wa.heap.size]? = some (.cells #[.int .i64 14, .int .i64 ln] 66)) wq := ⟨New.trans hn.1 hnq, hp1 hn.2 hnq⟩
            refine hK.out _ _ (by first | exact hn | exact Upd.alloc hn _) (fun hn => ?_)
            clear hK K
            try simp only [Act.put, List.setIfInBounds_toArray, List.set_cons_zero, List.set_cons_succ]
            refine wpAnyH_ready (rs := [5]) (by kernel_rfl) (by simp) ?_
            refine AllReadyH.cons (o := { dst := some 62, op := Op.load 9 (Operand.tmp 61), type := 9, pos := "instr.go:64", after := #[{ on := 4, ground := Ground.data }, { on := 1, ground := Ground.guard }], guard := some (1, true) }) rfl (fun K hK => ?_) AllReadyH.nil
            have z9 := cellAt hbx 9 (v := .string raw) rfl
            go_simp
            refine hK.out _ _ (by first | exact hn | exact Upd.alloc hn _) (fun hn => ?_)
            clear hK K
            try simp only [Act.put, List.setIfInBounds_toArray, List.set_cons_zero, List.set_cons_succ]
            refine wpAnyH_take (i := 6) (oi := { dst := some 63, op := Op.call { callee := Callee.builtin Builtin.len, args := #[Operand.tmp 62], argTypes := #[9] }, type := 3, pos := "instr.go:64", after := #[{ on := 5, ground := Ground.data }, { on := 1, ground := Ground.guard }], guard := some (1, true) }) (v := ?v34x5) rfl (by kernel_rfl) (by kernel_rfl) (by kernel_rfl) (fun _ _ _ h => h) (Or.inl ⟨by rfl, ?y34x5⟩) hn ?r34x5
            case y34x5 => (intro wS hS; (try go_simp); (try with_reducible rfl))
            try simp only [Act.put, List.setIfInBounds_toArray, List.set_cons_zero, List.set_cons_succ]
            refine wpAnyH_ready (rs := [7]) (by kernel_rfl) (by simp) ?_
            refine AllReadyH.cons (o := { dst := some 64, op := Op.call { callee := Callee.value (Operand.func 32), args := #[Operand.tmp 60, Operand.tmp 63], argTypes := #[70, 3] }, type := 4, pos := "instr.go:64", after := #[{ on := 3, ground := Ground.data }, { on := 6, ground := Ground.data }, { on := 3, ground := Ground.chain }, { on := 1, ground := Ground.guard }], guard := some (1, true) }) rfl (fun K hK => ?_) AllReadyH.nil
            go_simp
            refine (HH2.out _).mono ?_
            rintro e wr ⟨rfl, hnq⟩
            go_wp2_with fail
            have hbx := hp1 hbx hnq
            have hn : (fun w' => New w w' ∧ w'.heap[wa.heap.size]? = some (.cells #[.int .i64 14, .int .i64 ln] 66)) wr := ⟨New.trans hn.1 hnq, hp1 hn.2 hnq⟩
            refine hK.out _ _ (by first | exact hn | exact Upd.alloc hn _) (fun hn => ?_)
            clear hK K
            try simp only [Act.put, List.setIfInBounds_toArray, List.set_cons_zero, List.set_cons_succ]
            refine wpAnyH_take (i := 8) (oi := { dst := some 65, op := Op.pick (Operand.tmp 58) (Operand.tmp 64) (Operand.const (Value.bool false)), type := 4, pos := "instr.go:64", after := #[{ on := 1, ground := Ground.data }, { on := 7, ground := Ground.data }], guard := none }) (v := ?v34x6) rfl (by kernel_rfl) (by kernel_rfl) (by kernel_rfl) (fun _ _ _ h => h) (Or.inl ⟨by rfl, ?y34x6⟩) hn ?r34x6
            case y34x6 => (intro wS hS; (try go_simp); (try with_reducible rfl))
            try simp only [Act.put, List.setIfInBounds_toArray, List.set_cons_zero, List.set_cons_succ]
            refine wpAnyH_take (i := 9) (oi := { dst := some 66, op := Op.move (Operand.tmp 65), type := 4, pos := "instr.go:64", after := #[{ on := 8, ground := Ground.data }, { on := 7, ground := Ground.chain }], guard := none }) (v := ?v34x7) rfl (by kernel_rfl) (by kernel_rfl) (by kernel_rfl) (fun _ _ _ h => h) (Or.inl ⟨by rfl, ?y34x7⟩) hn ?r34x7
            case y34x7 => (intro wS hS; (try go_simp); (try with_reducible rfl))
            try simp only [Act.put, List.setIfInBounds_toArray, List.set_cons_zero, List.set_cons_succ]
            refine wpAnyH_take (i := 10) (oi := { dst := some 67, op := Op.fieldAddr 66 (Operand.tmp 3) 0, type := 0, pos := "instr.go:64", after := #[{ on := 9, ground := Ground.guard }], guard := some (9, true) }) (v := ?v34x8) rfl (by kernel_rfl) (by kernel_rfl) (by kernel_rfl) (fun _ _ _ h => h) (Or.inl ⟨by rfl, ?y34x8⟩) hn ?r34x8
            case y34x8 => (intro wS hS; (try go_simp); (try with_reducible rfl))
            try simp only [Act.put, List.setIfInBounds_toArray, List.set_cons_zero, List.set_cons_succ]
            refine wpAnyH_take (i := 11) (oi := { dst := some 68, op := Op.load 3 (Operand.tmp 67), type := 3, pos := "instr.go:64", after := #[{ on := 10, ground := Ground.data }, { on := 9, ground := Ground.guard }], guard := some (9, true) }) (v := ?v34x9) rfl (by kernel_rfl) (by kernel_rfl) (by kernel_rfl) (fun _ _ _ h => h) (Or.inl ⟨by rfl, ?y34x9⟩) hn ?r34x9
            case y34x9 => (intro wS hS; have c0 := cellAt hS.2 0 rfl; (try go_simp); (try with_reducible rfl))
            try simp only [Act.put, List.setIfInBounds_toArray, List.set_cons_zero, List.set_cons_succ]
            refine wpAnyH_take (i := 12) (oi := { dst := some 69, op := Op.binOp BinOp.neq 3 (Operand.tmp 68) (Operand.const (Value.int IntKind.i64 14)) 3, type := 4, pos := "instr.go:64", after := #[{ on := 11, ground := Ground.data }, { on := 9, ground := Ground.guard }], guard := some (9, true) }) (v := ?v34x10) rfl (by kernel_rfl) (by kernel_rfl) (by kernel_rfl) (fun _ _ _ h => h) (Or.inl ⟨by rfl, ?y34x10⟩) hn ?r34x10
            case y34x10 => (intro wS hS; (try go_simp); (try with_reducible rfl))
            try simp only [Act.put, List.setIfInBounds_toArray, List.set_cons_zero, List.set_cons_succ]
            refine wpAnyH_take (i := 13) (oi := { dst := some 70, op := Op.move (Operand.tmp 69), type := 4, pos := "instr.go:64", after := #[{ on := 12, ground := Ground.data }, { on := 9, ground := Ground.chain }, { on := 9, ground := Ground.guard }], guard := some (9, true) }) (v := ?v34x11) rfl (by kernel_rfl) (by kernel_rfl) (by kernel_rfl) (fun _ _ _ h => h) (Or.inl ⟨by rfl, ?y34x11⟩) hn ?r34x11
            case y34x11 => (intro wS hS; (try go_simp); (try with_reducible rfl))
            try simp only [Act.put, List.setIfInBounds_toArray, List.set_cons_zero, List.set_cons_succ]
            refine wpAnyH_take (i := 14) (oi := { dst := some 71, op := Op.fieldAddr 34 (Operand.tmp 1) 6, type := 0, pos := "instr.go:64", after := #[{ on := 13, ground := Ground.guard }], guard := some (13, false) }) (v := ?v34x12) rfl (by kernel_rfl) (by kernel_rfl) (by kernel_rfl) (fun _ _ _ h => h) (Or.inl ⟨by rfl, ?y34x12⟩) hn ?r34x12
            case y34x12 => (intro wS hS; (try go_simp); (try with_reducible rfl))
            try simp only [Act.put, List.setIfInBounds_toArray, List.set_cons_zero, List.set_cons_succ]
            refine wpAnyH_ready (rs := [15]) (by kernel_rfl) (by simp) ?_
            refine AllReadyH.cons (o := { dst := some 72, op := Op.load 9 (Operand.tmp 71), type := 9, pos := "instr.go:64", after := #[{ on := 14, ground := Ground.data }, { on := 13, ground := Ground.guard }], guard := some (13, false) }) rfl (fun K hK => ?_) AllReadyH.nil
            have z9 := cellAt hbx 9 (v := .string raw) rfl
            go_simp
            refine hK.out _ _ (by first | exact hn | exact Upd.alloc hn _) (fun hn => ?_)
            clear hK K
            try simp only [Act.put, List.setIfInBounds_toArray, List.set_cons_zero, List.set_cons_succ]
            refine wpAnyH_ready (rs := [16]) (by kernel_rfl) (by simp) ?_
            refine AllReadyH.cons (o := { dst := some 73, op := Op.call { callee := Callee.value (Operand.func 33), args := #[Operand.tmp 72], argTypes := #[9] }, type := 4, pos := "instr.go:64", after := #[{ on := 15, ground := Ground.data }, { on := 13, ground := Ground.chain }, { on := 13, ground := Ground.guard }], guard := some (13, false) }) rfl (fun K hK => ?_) AllReadyH.nil
            go_simp
            refine (HSH.out _).mono ?_
            rintro e wt ⟨rfl, hnq⟩
            go_wp2_with fail
            have hbx := hp1 hbx hnq
            have hn : (fun w' => New w w' ∧ w'.heap[wa.heap.size]? = some (.cells #[.int .i64 14, .int .i64 ln] 66)) wt := ⟨New.trans hn.1 hnq, hp1 hn.2 hnq⟩
            refine hK.out _ _ (by first | exact hn | exact Upd.alloc hn _) (fun hn => ?_)
            clear hK K
            try simp only [Act.put, List.setIfInBounds_toArray, List.set_cons_zero, List.set_cons_succ]
            refine wpAnyH_take (i := 17) (oi := { dst := some 74, op := Op.pick (Operand.tmp 70) (Operand.const (Value.bool true)) (Operand.tmp 73), type := 4, pos := "instr.go:64", after := #[{ on := 13, ground := Ground.data }, { on := 16, ground := Ground.data }, { on := 9, ground := Ground.guard }], guard := some (9, true) }) (v := ?v34x13) rfl (by kernel_rfl) (by kernel_rfl) (by kernel_rfl) (fun _ _ _ h => h) (Or.inl ⟨by rfl, ?y34x13⟩) hn ?r34x13
            case y34x13 => (intro wS hS; (try go_simp); (try with_reducible rfl))
            try simp only [Act.put, List.setIfInBounds_toArray, List.set_cons_zero, List.set_cons_succ]
            refine wpAnyH_take (i := 18) (oi := { dst := some 75, op := Op.pick (Operand.tmp 66) (Operand.tmp 74) (Operand.const (Value.bool false)), type := 4, pos := "instr.go:64", after := #[{ on := 9, ground := Ground.data }, { on := 17, ground := Ground.data }], guard := none }) (v := ?v34x14) rfl (by kernel_rfl) (by kernel_rfl) (by kernel_rfl) (fun _ _ _ h => h) (Or.inl ⟨by rfl, ?y34x14⟩) hn ?r34x14
            case y34x14 => (intro wS hS; (try go_simp); (try with_reducible rfl))
            try simp only [Act.put, List.setIfInBounds_toArray, List.set_cons_zero, List.set_cons_succ]
            refine wpAnyH_take (i := 19) (oi := { dst := some 4, op := Op.assign (Operand.tmp 75), type := 4, pos := "instr.go:64", after := #[{ on := 18, ground := Ground.data }, { on := 16, ground := Ground.chain }, { on := 0, ground := Ground.phase }, { on := 1, ground := Ground.phase }, { on := 2, ground := Ground.phase }, { on := 3, ground := Ground.phase }, { on := 4, ground := Ground.phase }, { on := 5, ground := Ground.phase }, { on := 6, ground := Ground.phase }, { on := 7, ground := Ground.phase }, { on := 8, ground := Ground.phase }, { on := 9, ground := Ground.phase }, { on := 10, ground := Ground.phase }, { on := 11, ground := Ground.phase }, { on := 12, ground := Ground.phase }, { on := 13, ground := Ground.phase }, { on := 14, ground := Ground.phase }, { on := 15, ground := Ground.phase }, { on := 16, ground := Ground.phase }, { on := 17, ground := Ground.phase }, { on := 18, ground := Ground.phase }], guard := none }) (v := ?v34x15) rfl (by kernel_rfl) (by kernel_rfl) (by kernel_rfl) (fun _ _ _ h => h) (Or.inl ⟨by rfl, ?y34x15⟩) hn ?r34x15
            case y34x15 => (intro wS hS; (try go_simp); (try with_reducible rfl))
            try simp only [Act.put, List.setIfInBounds_toArray, List.set_cons_zero, List.set_cons_succ]
            refine wpAnyH_take (i := 20) (oi := { dst := some 76, op := Op.fieldAddr 34 (Operand.tmp 1) 6, type := 0, pos := "instr.go:64", after := #[{ on := 0, ground := Ground.phase }, { on := 1, ground := Ground.phase }, { on := 2, ground := Ground.phase }, { on := 3, ground := Ground.phase }, { on := 4, ground := Ground.phase }, { on := 5, ground := Ground.phase }, { on := 6, ground := Ground.phase }, { on := 7, ground := Ground.phase }, { on := 8, ground := Ground.phase }, { on := 9, ground := Ground.phase }, { on := 10, ground := Ground.phase }, { on := 11, ground := Ground.phase }, { on := 12, ground := Ground.phase }, { on := 13, ground := Ground.phase }, { on := 14, ground := Ground.phase }, { on := 15, ground := Ground.phase }, { on := 16, ground := Ground.phase }, { on := 17, ground := Ground.phase }, { on := 18, ground := Ground.phase }, { on := 19, ground := Ground.phase }], guard := none }) (v := ?v34x16) rfl (by kernel_rfl) (by kernel_rfl) (by kernel_rfl) (fun _ _ _ h => h) (Or.inl ⟨by rfl, ?y34x16⟩) hn ?r34x16
            case y34x16 => (intro wS hS; (try go_simp); (try with_reducible rfl))
            try simp only [Act.put, List.setIfInBounds_toArray, List.set_cons_zero, List.set_cons_succ]
            refine wpAnyH_ready (rs := [21]) (by kernel_rfl) (by simp) ?_
            refine AllReadyH.cons (o := { dst := none, op := Op.store 9 (Operand.tmp 76) (Operand.const (Value.string { data := #[] })), type := 0, pos := "instr.go:64", after := #[{ on := 20, ground := Ground.data }, { on := 19, ground := Ground.chain }, { on := 0, ground := Ground.phase }, { on := 1, ground := Ground.phase }, { on := 2, ground := Ground.phase }, { on := 3, ground := Ground.phase }, { on := 4, ground := Ground.phase }, { on := 5, ground := Ground.phase }, { on := 6, ground := Ground.phase }, { on := 7, ground := Ground.phase }, { on := 8, ground := Ground.phase }, { on := 9, ground := Ground.phase }, { on := 10, ground := Ground.phase }, { on := 11, ground := Ground.phase }, { on := 12, ground := Ground.phase }, { on := 13, ground := Ground.phase }, { on := 14, ground := Ground.phase }, { on := 15, ground := Ground.phase }, { on := 16, ground := Ground.phase }, { on := 17, ground := Ground.phase }, { on := 18, ground := Ground.phase }, { on := 19, ground := Ground.phase }], guard := none }) rfl (fun K hK => ?_) AllReadyH.nil
            have z9 := cellAt hbx 9 (v := .string raw) rfl
            have f9 := frozenAt hbx 9
            go_simp
            have hbx := hp_set hbx 9 (.string ⟨#[]⟩)
            have hn : (fun w' => New w w' ∧ w'.heap[wa.heap.size]? = some (.cells #[.int .i64 14, .int .i64 ln] 66)) (wt.setCell ⟨w.heap.size, 9, none⟩ (.string ⟨#[]⟩)) := ⟨setNew hn.1 9 _, hp_other hn.2 HNE.out⟩
            refine hK.out _ _ (by first | exact hn | exact Upd.alloc hn _) (fun hn => ?_)
            clear hK K
            try simp only [Act.put, List.setIfInBounds_toArray, List.set_cons_zero, List.set_cons_succ]
            refine wpAnyH_done (by kernel_rfl) ?_ _
            refine NoPanic.normal ?_
            go_wp2_with fail
            go_meet
            exact ⟨_, (.slice al li.length cl), (.slice au (lb ty).length cu), rfl, (by have h : raw.size = 16 := (by have := has_eq HBH.out; omega); simp [ownQ, h, small]), hbx, hn.1, HL.out.new hn.1, HU.out.new hn.1⟩
          refine AllReadyH.cons (o := { dst := some 62, op := Op.load 9 (Operand.tmp 61), type := 9, pos := "instr.go:64", after := #[{ on := 4, ground := Ground.data }, { on := 1, ground := Ground.guard }], guard := some (1, true) }) rfl (fun K hK => ?_) AllReadyH.nil
          have z9 := cellAt hbx 9 (v := .string raw) rfl
          go_simp
          refine hK.out _ _ (by first | exact hn | exact Upd.alloc hn _) (fun hn => ?_)
          clear hK K
          try simp only [Act.put, List.setIfInBounds_toArray, List.set_cons_zero, List.set_cons_succ]
          refine wpAnyH_take (i := 6) (oi := { dst := some 63, op := Op.call { callee := Callee.builtin Builtin.len, args := #[Operand.tmp 62], argTypes := #[9] }, type := 3, pos := "instr.go:64", after := #[{ on := 5, ground := Ground.data }, { on := 1, ground := Ground.guard }], guard := some (1, true) }) (v := ?v34x17) rfl (by kernel_rfl) (by kernel_rfl) (by kernel_rfl) (fun _ _ _ h => h) (Or.inl ⟨by rfl, ?y34x17⟩) hn ?r34x17
          case y34x17 => (intro wS hS; (try go_simp); (try with_reducible rfl))
          try simp only [Act.put, List.setIfInBounds_toArray, List.set_cons_zero, List.set_cons_succ]
          refine wpAnyH_ready (rs := [3]) (by kernel_rfl) (by simp) ?_
          refine AllReadyH.cons (o := { dst := some 60, op := Op.call { callee := Callee.value (Operand.func 31), args := #[Operand.tmp 59], argTypes := #[66] }, type := 70, pos := "instr.go:64", after := #[{ on := 2, ground := Ground.data }, { on := 1, ground := Ground.chain }, { on := 1, ground := Ground.guard }], guard := some (1, true) }) rfl (fun K hK => ?_) AllReadyH.nil
          go_simp
          refine (HS2.out _ _).mono ?_
          rintro e wq ⟨rfl, hnq⟩
          go_wp2_with fail
          have hbx := hp1 hbx hnq
          have hn : (fun w' => New w w' ∧ w'.heap[wa.heap.size]? = some (.cells #[.int .i64 14, .int .i64 ln] 66)) wq := ⟨New.trans hn.1 hnq, hp1 hn.2 hnq⟩
          refine hK.out _ _ (by first | exact hn | exact Upd.alloc hn _) (fun hn => ?_)
          clear hK K
          try simp only [Act.put, List.setIfInBounds_toArray, List.set_cons_zero, List.set_cons_succ]
          refine wpAnyH_ready (rs := [7]) (by kernel_rfl) (by simp) ?_
          refine AllReadyH.cons (o := { dst := some 64, op := Op.call { callee := Callee.value (Operand.func 32), args := #[Operand.tmp 60, Operand.tmp 63], argTypes := #[70, 3] }, type := 4, pos := "instr.go:64", after := #[{ on := 3, ground := Ground.data }, { on := 6, ground := Ground.data }, { on := 3, ground := Ground.chain }, { on := 1, ground := Ground.guard }], guard := some (1, true) }) rfl (fun K hK => ?_) AllReadyH.nil
          go_simp
          refine (HH2.out _).mono ?_
          rintro e wr ⟨rfl, hnq⟩
          go_wp2_with fail
          have hbx := hp1 hbx hnq
          have hn : (fun w' => New w w' ∧ w'.heap[wa.heap.size]? = some (.cells #[.int .i64 14, .int .i64 ln] 66)) wr := ⟨New.trans hn.1 hnq, hp1 hn.2 hnq⟩
          refine hK.out _ _ (by first | exact hn | exact Upd.alloc hn _) (fun hn => ?_)
          clear hK K
          try simp only [Act.put, List.setIfInBounds_toArray, List.set_cons_zero, List.set_cons_succ]
          refine wpAnyH_take (i := 8) (oi := { dst := some 65, op := Op.pick (Operand.tmp 58) (Operand.tmp 64) (Operand.const (Value.bool false)), type := 4, pos := "instr.go:64", after := #[{ on := 1, ground := Ground.data }, { on := 7, ground := Ground.data }], guard := none }) (v := ?v34x18) rfl (by kernel_rfl) (by kernel_rfl) (by kernel_rfl) (fun _ _ _ h => h) (Or.inl ⟨by rfl, ?y34x18⟩) hn ?r34x18
          case y34x18 => (intro wS hS; (try go_simp); (try with_reducible rfl))
          try simp only [Act.put, List.setIfInBounds_toArray, List.set_cons_zero, List.set_cons_succ]
          refine wpAnyH_take (i := 9) (oi := { dst := some 66, op := Op.move (Operand.tmp 65), type := 4, pos := "instr.go:64", after := #[{ on := 8, ground := Ground.data }, { on := 7, ground := Ground.chain }], guard := none }) (v := ?v34x19) rfl (by kernel_rfl) (by kernel_rfl) (by kernel_rfl) (fun _ _ _ h => h) (Or.inl ⟨by rfl, ?y34x19⟩) hn ?r34x19
          case y34x19 => (intro wS hS; (try go_simp); (try with_reducible rfl))
          try simp only [Act.put, List.setIfInBounds_toArray, List.set_cons_zero, List.set_cons_succ]
          refine wpAnyH_take (i := 10) (oi := { dst := some 67, op := Op.fieldAddr 66 (Operand.tmp 3) 0, type := 0, pos := "instr.go:64", after := #[{ on := 9, ground := Ground.guard }], guard := some (9, true) }) (v := ?v34x20) rfl (by kernel_rfl) (by kernel_rfl) (by kernel_rfl) (fun _ _ _ h => h) (Or.inl ⟨by rfl, ?y34x20⟩) hn ?r34x20
          case y34x20 => (intro wS hS; (try go_simp); (try with_reducible rfl))
          try simp only [Act.put, List.setIfInBounds_toArray, List.set_cons_zero, List.set_cons_succ]
          refine wpAnyH_take (i := 11) (oi := { dst := some 68, op := Op.load 3 (Operand.tmp 67), type := 3, pos := "instr.go:64", after := #[{ on := 10, ground := Ground.data }, { on := 9, ground := Ground.guard }], guard := some (9, true) }) (v := ?v34x21) rfl (by kernel_rfl) (by kernel_rfl) (by kernel_rfl) (fun _ _ _ h => h) (Or.inl ⟨by rfl, ?y34x21⟩) hn ?r34x21
          case y34x21 => (intro wS hS; have c0 := cellAt hS.2 0 rfl; (try go_simp); (try with_reducible rfl))
          try simp only [Act.put, List.setIfInBounds_toArray, List.set_cons_zero, List.set_cons_succ]
          refine wpAnyH_take (i := 12) (oi := { dst := some 69, op := Op.binOp BinOp.neq 3 (Operand.tmp 68) (Operand.const (Value.int IntKind.i64 14)) 3, type := 4, pos := "instr.go:64", after := #[{ on := 11, ground := Ground.data }, { on := 9, ground := Ground.guard }], guard := some (9, true) }) (v := ?v34x22) rfl (by kernel_rfl) (by kernel_rfl) (by kernel_rfl) (fun _ _ _ h => h) (Or.inl ⟨by rfl, ?y34x22⟩) hn ?r34x22
          case y34x22 => (intro wS hS; (try go_simp); (try with_reducible rfl))
          try simp only [Act.put, List.setIfInBounds_toArray, List.set_cons_zero, List.set_cons_succ]
          refine wpAnyH_take (i := 13) (oi := { dst := some 70, op := Op.move (Operand.tmp 69), type := 4, pos := "instr.go:64", after := #[{ on := 12, ground := Ground.data }, { on := 9, ground := Ground.chain }, { on := 9, ground := Ground.guard }], guard := some (9, true) }) (v := ?v34x23) rfl (by kernel_rfl) (by kernel_rfl) (by kernel_rfl) (fun _ _ _ h => h) (Or.inl ⟨by rfl, ?y34x23⟩) hn ?r34x23
          case y34x23 => (intro wS hS; (try go_simp); (try with_reducible rfl))
          try simp only [Act.put, List.setIfInBounds_toArray, List.set_cons_zero, List.set_cons_succ]
          refine wpAnyH_take (i := 14) (oi := { dst := some 71, op := Op.fieldAddr 34 (Operand.tmp 1) 6, type := 0, pos := "instr.go:64", after := #[{ on := 13, ground := Ground.guard }], guard := some (13, false) }) (v := ?v34x24) rfl (by kernel_rfl) (by kernel_rfl) (by kernel_rfl) (fun _ _ _ h => h) (Or.inl ⟨by rfl, ?y34x24⟩) hn ?r34x24
          case y34x24 => (intro wS hS; (try go_simp); (try with_reducible rfl))
          try simp only [Act.put, List.setIfInBounds_toArray, List.set_cons_zero, List.set_cons_succ]
          refine wpAnyH_ready (rs := [15]) (by kernel_rfl) (by simp) ?_
          refine AllReadyH.cons (o := { dst := some 72, op := Op.load 9 (Operand.tmp 71), type := 9, pos := "instr.go:64", after := #[{ on := 14, ground := Ground.data }, { on := 13, ground := Ground.guard }], guard := some (13, false) }) rfl (fun K hK => ?_) AllReadyH.nil
          have z9 := cellAt hbx 9 (v := .string raw) rfl
          go_simp
          refine hK.out _ _ (by first | exact hn | exact Upd.alloc hn _) (fun hn => ?_)
          clear hK K
          try simp only [Act.put, List.setIfInBounds_toArray, List.set_cons_zero, List.set_cons_succ]
          refine wpAnyH_ready (rs := [16]) (by kernel_rfl) (by simp) ?_
          refine AllReadyH.cons (o := { dst := some 73, op := Op.call { callee := Callee.value (Operand.func 33), args := #[Operand.tmp 72], argTypes := #[9] }, type := 4, pos := "instr.go:64", after := #[{ on := 15, ground := Ground.data }, { on := 13, ground := Ground.chain }, { on := 13, ground := Ground.guard }], guard := some (13, false) }) rfl (fun K hK => ?_) AllReadyH.nil
          go_simp
          refine (HSH.out _).mono ?_
          rintro e wt ⟨rfl, hnq⟩
          go_wp2_with fail
          have hbx := hp1 hbx hnq
          have hn : (fun w' => New w w' ∧ w'.heap[wa.heap.size]? = some (.cells #[.int .i64 14, .int .i64 ln] 66)) wt := ⟨New.trans hn.1 hnq, hp1 hn.2 hnq⟩
          refine hK.out _ _ (by first | exact hn | exact Upd.alloc hn _) (fun hn => ?_)
          clear hK K
          try simp only [Act.put, List.setIfInBounds_toArray, List.set_cons_zero, List.set_cons_succ]
          refine wpAnyH_take (i := 17) (oi := { dst := some 74, op := Op.pick (Operand.tmp 70) (Operand.const (Value.bool true)) (Operand.tmp 73), type := 4, pos := "instr.go:64", after := #[{ on := 13, ground := Ground.data }, { on := 16, ground := Ground.data }, { on := 9, ground := Ground.guard }], guard := some (9, true) }) (v := ?v34x25) rfl (by kernel_rfl) (by kernel_rfl) (by kernel_rfl) (fun _ _ _ h => h) (Or.inl ⟨by rfl, ?y34x25⟩) hn ?r34x25
          case y34x25 => (intro wS hS; (try go_simp); (try with_reducible rfl))
          try simp only [Act.put, List.setIfInBounds_toArray, List.set_cons_zero, List.set_cons_succ]
          refine wpAnyH_take (i := 18) (oi := { dst := some 75, op := Op.pick (Operand.tmp 66) (Operand.tmp 74) (Operand.const (Value.bool false)), type := 4, pos := "instr.go:64", after := #[{ on := 9, ground := Ground.data }, { on := 17, ground := Ground.data }], guard := none }) (v := ?v34x26) rfl (by kernel_rfl) (by kernel_rfl) (by kernel_rfl) (fun _ _ _ h => h) (Or.inl ⟨by rfl, ?y34x26⟩) hn ?r34x26
          case y34x26 => (intro wS hS; (try go_simp); (try with_reducible rfl))
          try simp only [Act.put, List.setIfInBounds_toArray, List.set_cons_zero, List.set_cons_succ]
          refine wpAnyH_take (i := 19) (oi := { dst := some 4, op := Op.assign (Operand.tmp 75), type := 4, pos := "instr.go:64", after := #[{ on := 18, ground := Ground.data }, { on := 16, ground := Ground.chain }, { on := 0, ground := Ground.phase }, { on := 1, ground := Ground.phase }, { on := 2, ground := Ground.phase }, { on := 3, ground := Ground.phase }, { on := 4, ground := Ground.phase }, { on := 5, ground := Ground.phase }, { on := 6, ground := Ground.phase }, { on := 7, ground := Ground.phase }, { on := 8, ground := Ground.phase }, { on := 9, ground := Ground.phase }, { on := 10, ground := Ground.phase }, { on := 11, ground := Ground.phase }, { on := 12, ground := Ground.phase }, { on := 13, ground := Ground.phase }, { on := 14, ground := Ground.phase }, { on := 15, ground := Ground.phase }, { on := 16, ground := Ground.phase }, { on := 17, ground := Ground.phase }, { on := 18, ground := Ground.phase }], guard := none }) (v := ?v34x27) rfl (by kernel_rfl) (by kernel_rfl) (by kernel_rfl) (fun _ _ _ h => h) (Or.inl ⟨by rfl, ?y34x27⟩) hn ?r34x27
          case y34x27 => (intro wS hS; (try go_simp); (try with_reducible rfl))
          try simp only [Act.put, List.setIfInBounds_toArray, List.set_cons_zero, List.set_cons_succ]
          refine wpAnyH_take (i := 20) (oi := { dst := some 76, op := Op.fieldAddr 34 (Operand.tmp 1) 6, type := 0, pos := "instr.go:64", after := #[{ on := 0, ground := Ground.phase }, { on := 1, ground := Ground.phase }, { on := 2, ground := Ground.phase }, { on := 3, ground := Ground.phase }, { on := 4, ground := Ground.phase }, { on := 5, ground := Ground.phase }, { on := 6, ground := Ground.phase }, { on := 7, ground := Ground.phase }, { on := 8, ground := Ground.phase }, { on := 9, ground := Ground.phase }, { on := 10, ground := Ground.phase }, { on := 11, ground := Ground.phase }, { on := 12, ground := Ground.phase }, { on := 13, ground := Ground.phase }, { on := 14, ground := Ground.phase }, { on := 15, ground := Ground.phase }, { on := 16, ground := Ground.phase }, { on := 17, ground := Ground.phase }, { on := 18, ground := Ground.phase }, { on := 19, ground := Ground.phase }], guard := none }) (v := ?v34x28) rfl (by kernel_rfl) (by kernel_rfl) (by kernel_rfl) (fun _ _ _ h => h) (Or.inl ⟨by rfl, ?y34x28⟩) hn ?r34x28
          case y34x28 => (intro wS hS; (try go_simp); (try with_reducible rfl))
          try simp only [Act.put, List.setIfInBounds_toArray, List.set_cons_zero, List.set_cons_succ]
          refine wpAnyH_ready (rs := [21]) (by kernel_rfl) (by simp) ?_
          refine AllReadyH.cons (o := { dst := none, op := Op.store 9 (Operand.tmp 76) (Operand.const (Value.string { data := #[] })), type := 0, pos := "instr.go:64", after := #[{ on := 20, ground := Ground.data }, { on := 19, ground := Ground.chain }, { on := 0, ground := Ground.phase }, { on := 1, ground := Ground.phase }, { on := 2, ground := Ground.phase }, { on := 3, ground := Ground.phase }, { on := 4, ground := Ground.phase }, { on := 5, ground := Ground.phase }, { on := 6, ground := Ground.phase }, { on := 7, ground := Ground.phase }, { on := 8, ground := Ground.phase }, { on := 9, ground := Ground.phase }, { on := 10, ground := Ground.phase }, { on := 11, ground := Ground.phase }, { on := 12, ground := Ground.phase }, { on := 13, ground := Ground.phase }, { on := 14, ground := Ground.phase }, { on := 15, ground := Ground.phase }, { on := 16, ground := Ground.phase }, { on := 17, ground := Ground.phase }, { on := 18, ground := Ground.phase }, { on := 19, ground := Ground.phase }], guard := none }) rfl (fun K hK => ?_) AllReadyH.nil
          have z9 := cellAt hbx 9 (v := .string raw) rfl
          have f9 := frozenAt hbx 9
          go_simp
          have hbx := hp_set hbx 9 (.string ⟨#[]⟩)
          have hn : (fun w' => New w w' ∧ w'.heap[wa.heap.size]? = some (.cells #[.int .i64 14, .int .i64 ln] 66)) (wt.setCell ⟨w.heap.size, 9, none⟩ (.string ⟨#[]⟩)) := ⟨setNew hn.1 9 _, hp_other hn.2 HNE.out⟩
          refine hK.out _ _ (by first | exact hn | exact Upd.alloc hn _) (fun hn => ?_)
          clear hK K
          try simp only [Act.put, List.setIfInBounds_toArray, List.set_cons_zero, List.set_cons_succ]
          refine wpAnyH_done (by kernel_rfl) ?_ _
          refine NoPanic.normal ?_
          go_wp2_with fail
          go_meet
          exact ⟨_, (.slice al li.length cl), (.slice au (lb ty).length cu), rfl, (by have h : raw.size = 16 := (by have := has_eq HBH.out; omega); simp [ownQ, h, small]), hbx, hn.1, HL.out.new hn.1, HU.out.new hn.1⟩
        | false =>
          have hn : (fun w' => New w w' ∧ w'.heap[wa.heap.size]? = some (.cells #[.int .i64 14, .int .i64 ln] 66)) wb.drew := ⟨HN.out.drew, HI.out⟩
          have hbx : Box wb.drew w.heap.size ⟨p, c, k, t, i, x, y, li, n, raw, lane, ty⟩ (.slice al li.length cl) (.slice au (lb ty).length cu) := HB.out
          clear y0 y1 z9 f9
          go_wp2_with fail
          refine wp_region_noPanic ?_
          refine wp_region_held_drew (S := (fun w' => New w w' ∧ w'.heap[wa.heap.size]? = some (.cells #[.int .i64 14, .int .i64 ln] 66))) (by kernel_rfl) (by first | exact hn | exact (Upd.refl _ _).drew | exact Upd.drew (by assumption)) (fun hn => ?_)
          generalize wb.drew = wd at *
          refine wpAnyH_take (i := 0) (oi := { dst := some 57, op := Op.move (Operand.tmp 4), type := 4, pos := "instr.go:64", after := #[], guard := none }) (v := ?v35x1) rfl (by kernel_rfl) (by kernel_rfl) (by kernel_rfl) (fun _ _ _ h => h) (Or.inl ⟨by rfl, ?y35x1⟩) hn ?r35x1
          case y35x1 => (intro wS hS; (try go_simp); (try with_reducible rfl))
          try simp only [Act.put, List.setIfInBounds_toArray, List.set_cons_zero, List.set_cons_succ]
          refine wpAnyH_take (i := 1) (oi := { dst := some 58, op := Op.move (Operand.tmp 57), type := 4, pos := "instr.go:64", after := #[{ on := 0, ground := Ground.data }], guard := none }) (v := ?v35x2) rfl (by kernel_rfl) (by kernel_rfl) (by kernel_rfl) (fun _ _ _ h => h) (Or.inl ⟨by rfl, ?y35x2⟩) hn ?r35x2
          case y35x2 => (intro wS hS; (try go_simp); (try with_reducible rfl))
          try simp only [Act.put, List.setIfInBounds_toArray, List.set_cons_zero, List.set_cons_succ]
          refine wpAnyH_take (i := 2) (oi := { dst := some 59, op := Op.load 66 (Operand.tmp 3), type := 66, pos := "instr.go:64", after := #[{ on := 1, ground := Ground.guard }], guard := some (1, true) }) (v := ?v35x3) rfl (by kernel_rfl) (by kernel_rfl) (by kernel_rfl) (fun _ _ _ h => h) (Or.inl ⟨by rfl, ?y35x3⟩) hn ?r35x3
          case y35x3 => (intro wS hS; have c0 := cellAt hS.2 0 rfl; have c1 := cellAt hS.2 1 rfl; (try go_simp); (try with_reducible rfl))
          try simp only [Act.put, List.setIfInBounds_toArray, List.set_cons_zero, List.set_cons_succ]
          refine wpAnyH_take (i := 4) (oi := { dst := some 61, op := Op.fieldAddr 34 (Operand.tmp 1) 6, type := 0, pos := "instr.go:64", after := #[{ on := 1, ground := Ground.guard }], guard := some (1, true) }) (v := ?v35x4) rfl (by kernel_rfl) (by kernel_rfl) (by kernel_rfl) (fun _ _ _ h => h) (Or.inl ⟨by rfl, ?y35x4⟩) hn ?r35x4
          case y35x4 => (intro wS hS; (try go_simp); (try with_reducible rfl))
          try simp only [Act.put, List.setIfInBounds_toArray, List.set_cons_zero, List.set_cons_succ]
          refine wpAnyH_ready (rs := [3, 5]) (by kernel_rfl) (by simp) ?_
          refine AllReadyH.cons (o := { dst := some 60, op := Op.call { callee := Callee.value (Operand.func 31), args := #[Operand.tmp 59], argTypes := #[66] }, type := 70, pos := "instr.go:64", after := #[{ on := 2, ground := Ground.data }, { on := 1, ground := Ground.chain }, { on := 1, ground := Ground.guard }], guard := some (1, true) }) rfl (fun K hK => ?_) ?_
          · skip
            go_simp
            refine (HS2.out _ _).mono ?_
            rintro e wq ⟨rfl, hnq⟩
            go_wp2_with fail
            have hbx := hp1 hbx hnq
            have hn : (fun w' => New w w' ∧ w'.heap[wa.heap.size]? = some (.cells #[.int .i64 14, .int .i64 ln] 66)) wq := ⟨New.trans hn.1 hnq, hp1 hn.2 hnq⟩
            refine hK.out _ _ (by first | exact hn | exact Upd.alloc hn _) (fun hn => ?_)
            clear hK K
            try simp only [Act.put, List.setIfInBounds_toArray, List.set_cons_zero, List.set_cons_succ]
            refine wpAnyH_ready (rs := [5]) (by kernel_rfl) (by simp) ?_
            refine AllReadyH.cons (o := { dst := some 62, op := Op.load 9 (Operand.tmp 61), type := 9, pos := "instr.go:64", after := #[{ on := 4, ground := Ground.data }, { on := 1, ground := Ground.guard }], guard := some (1, true) }) rfl (fun K hK => ?_) AllReadyH.nil
            have z9 := cellAt hbx 9 (v := .string raw) rfl
            go_simp
            refine hK.out _ _ (by first | exact hn | exact Upd.alloc hn _) (fun hn => ?_)
            clear hK K
            try simp only [Act.put, List.setIfInBounds_toArray, List.set_cons_zero, List.set_cons_succ]
            refine wpAnyH_take (i := 6) (oi := { dst := some 63, op := Op.call { callee := Callee.builtin Builtin.len, args := #[Operand.tmp 62], argTypes := #[9] }, type := 3, pos := "instr.go:64", after := #[{ on := 5, ground := Ground.data }, { on := 1, ground := Ground.guard }], guard := some (1, true) }) (v := ?v35x5) rfl (by kernel_rfl) (by kernel_rfl) (by kernel_rfl) (fun _ _ _ h => h) (Or.inl ⟨by rfl, ?y35x5⟩) hn ?r35x5
            case y35x5 => (intro wS hS; (try go_simp); (try with_reducible rfl))
            try simp only [Act.put, List.setIfInBounds_toArray, List.set_cons_zero, List.set_cons_succ]
            refine wpAnyH_ready (rs := [7]) (by kernel_rfl) (by simp) ?_
            refine AllReadyH.cons (o := { dst := some 64, op := Op.call { callee := Callee.value (Operand.func 32), args := #[Operand.tmp 60, Operand.tmp 63], argTypes := #[70, 3] }, type := 4, pos := "instr.go:64", after := #[{ on := 3, ground := Ground.data }, { on := 6, ground := Ground.data }, { on := 3, ground := Ground.chain }, { on := 1, ground := Ground.guard }], guard := some (1, true) }) rfl (fun K hK => ?_) AllReadyH.nil
            go_simp
            refine (HH2.out _).mono ?_
            rintro e wr ⟨rfl, hnq⟩
            go_wp2_with fail
            have hbx := hp1 hbx hnq
            have hn : (fun w' => New w w' ∧ w'.heap[wa.heap.size]? = some (.cells #[.int .i64 14, .int .i64 ln] 66)) wr := ⟨New.trans hn.1 hnq, hp1 hn.2 hnq⟩
            refine hK.out _ _ (by first | exact hn | exact Upd.alloc hn _) (fun hn => ?_)
            clear hK K
            try simp only [Act.put, List.setIfInBounds_toArray, List.set_cons_zero, List.set_cons_succ]
            refine wpAnyH_take (i := 8) (oi := { dst := some 65, op := Op.pick (Operand.tmp 58) (Operand.tmp 64) (Operand.const (Value.bool false)), type := 4, pos := "instr.go:64", after := #[{ on := 1, ground := Ground.data }, { on := 7, ground := Ground.data }], guard := none }) (v := ?v35x6) rfl (by kernel_rfl) (by kernel_rfl) (by kernel_rfl) (fun _ _ _ h => h) (Or.inl ⟨by rfl, ?y35x6⟩) hn ?r35x6
            case y35x6 => (intro wS hS; (try go_simp); (try with_reducible rfl))
            try simp only [Act.put, List.setIfInBounds_toArray, List.set_cons_zero, List.set_cons_succ]
            refine wpAnyH_take (i := 9) (oi := { dst := some 66, op := Op.move (Operand.tmp 65), type := 4, pos := "instr.go:64", after := #[{ on := 8, ground := Ground.data }, { on := 7, ground := Ground.chain }], guard := none }) (v := ?v35x7) rfl (by kernel_rfl) (by kernel_rfl) (by kernel_rfl) (fun _ _ _ h => h) (Or.inl ⟨by rfl, ?y35x7⟩) hn ?r35x7
            case y35x7 => (intro wS hS; (try go_simp); (try with_reducible rfl))
            try simp only [Act.put, List.setIfInBounds_toArray, List.set_cons_zero, List.set_cons_succ]
            refine wpAnyH_take (i := 10) (oi := { dst := some 67, op := Op.fieldAddr 66 (Operand.tmp 3) 0, type := 0, pos := "instr.go:64", after := #[{ on := 9, ground := Ground.guard }], guard := some (9, true) }) (v := undef) rfl (by kernel_rfl) (by kernel_rfl) (by kernel_rfl) (fun _ _ _ h => h) (Or.inr ⟨by rfl, rfl⟩) hn ?_
            try simp only [Act.put, List.setIfInBounds_toArray, List.set_cons_zero, List.set_cons_succ]
            refine wpAnyH_take (i := 11) (oi := { dst := some 68, op := Op.load 3 (Operand.tmp 67), type := 3, pos := "instr.go:64", after := #[{ on := 10, ground := Ground.data }, { on := 9, ground := Ground.guard }], guard := some (9, true) }) (v := undef) rfl (by kernel_rfl) (by kernel_rfl) (by kernel_rfl) (fun _ _ _ h => h) (Or.inr ⟨by rfl, rfl⟩) hn ?_
            try simp only [Act.put, List.setIfInBounds_toArray, List.set_cons_zero, List.set_cons_succ]
            refine wpAnyH_take (i := 12) (oi := { dst := some 69, op := Op.binOp BinOp.neq 3 (Operand.tmp 68) (Operand.const (Value.int IntKind.i64 14)) 3, type := 4, pos := "instr.go:64", after := #[{ on := 11, ground := Ground.data }, { on := 9, ground := Ground.guard }], guard := some (9, true) }) (v := undef) rfl (by kernel_rfl) (by kernel_rfl) (by kernel_rfl) (fun _ _ _ h => h) (Or.inr ⟨by rfl, rfl⟩) hn ?_
            try simp only [Act.put, List.setIfInBounds_toArray, List.set_cons_zero, List.set_cons_succ]
            refine wpAnyH_take (i := 13) (oi := { dst := some 70, op := Op.move (Operand.tmp 69), type := 4, pos := "instr.go:64", after := #[{ on := 12, ground := Ground.data }, { on := 9, ground := Ground.chain }, { on := 9, ground := Ground.guard }], guard := some (9, true) }) (v := undef) rfl (by kernel_rfl) (by kernel_rfl) (by kernel_rfl) (fun _ _ _ h => h) (Or.inr ⟨by rfl, rfl⟩) hn ?_
            try simp only [Act.put, List.setIfInBounds_toArray, List.set_cons_zero, List.set_cons_succ]
            refine wpAnyH_take (i := 14) (oi := { dst := some 71, op := Op.fieldAddr 34 (Operand.tmp 1) 6, type := 0, pos := "instr.go:64", after := #[{ on := 13, ground := Ground.guard }], guard := some (13, false) }) (v := undef) rfl (by kernel_rfl) (by kernel_rfl) (by kernel_rfl) (fun _ _ _ h => h) (Or.inr ⟨by rfl, rfl⟩) hn ?_
            try simp only [Act.put, List.setIfInBounds_toArray, List.set_cons_zero, List.set_cons_succ]
            refine wpAnyH_take (i := 15) (oi := { dst := some 72, op := Op.load 9 (Operand.tmp 71), type := 9, pos := "instr.go:64", after := #[{ on := 14, ground := Ground.data }, { on := 13, ground := Ground.guard }], guard := some (13, false) }) (v := undef) rfl (by kernel_rfl) (by kernel_rfl) (by kernel_rfl) (fun _ _ _ h => h) (Or.inr ⟨by rfl, rfl⟩) hn ?_
            try simp only [Act.put, List.setIfInBounds_toArray, List.set_cons_zero, List.set_cons_succ]
            refine wpAnyH_take (i := 16) (oi := { dst := some 73, op := Op.call { callee := Callee.value (Operand.func 33), args := #[Operand.tmp 72], argTypes := #[9] }, type := 4, pos := "instr.go:64", after := #[{ on := 15, ground := Ground.data }, { on := 13, ground := Ground.chain }, { on := 13, ground := Ground.guard }], guard := some (13, false) }) (v := undef) rfl (by kernel_rfl) (by kernel_rfl) (by kernel_rfl) (fun _ _ _ h => h) (Or.inr ⟨by rfl, rfl⟩) hn ?_
            try simp only [Act.put, List.setIfInBounds_toArray, List.set_cons_zero, List.set_cons_succ]
            refine wpAnyH_take (i := 17) (oi := { dst := some 74, op := Op.pick (Operand.tmp 70) (Operand.const (Value.bool true)) (Operand.tmp 73), type := 4, pos := "instr.go:64", after := #[{ on := 13, ground := Ground.data }, { on := 16, ground := Ground.data }, { on := 9, ground := Ground.guard }], guard := some (9, true) }) (v := undef) rfl (by kernel_rfl) (by kernel_rfl) (by kernel_rfl) (fun _ _ _ h => h) (Or.inr ⟨by rfl, rfl⟩) hn ?_
            try simp only [Act.put, List.setIfInBounds_toArray, List.set_cons_zero, List.set_cons_succ]
            refine wpAnyH_take (i := 18) (oi := { dst := some 75, op := Op.pick (Operand.tmp 66) (Operand.tmp 74) (Operand.const (Value.bool false)), type := 4, pos := "instr.go:64", after := #[{ on := 9, ground := Ground.data }, { on := 17, ground := Ground.data }], guard := none }) (v := ?v35x16) rfl (by kernel_rfl) (by kernel_rfl) (by kernel_rfl) (fun _ _ _ h => h) (Or.inl ⟨by rfl, ?y35x16⟩) hn ?r35x16
            case y35x16 => (intro wS hS; (try go_simp); (try with_reducible rfl))
            try simp only [Act.put, List.setIfInBounds_toArray, List.set_cons_zero, List.set_cons_succ]
            refine wpAnyH_take (i := 19) (oi := { dst := some 4, op := Op.assign (Operand.tmp 75), type := 4, pos := "instr.go:64", after := #[{ on := 18, ground := Ground.data }, { on := 16, ground := Ground.chain }, { on := 0, ground := Ground.phase }, { on := 1, ground := Ground.phase }, { on := 2, ground := Ground.phase }, { on := 3, ground := Ground.phase }, { on := 4, ground := Ground.phase }, { on := 5, ground := Ground.phase }, { on := 6, ground := Ground.phase }, { on := 7, ground := Ground.phase }, { on := 8, ground := Ground.phase }, { on := 9, ground := Ground.phase }, { on := 10, ground := Ground.phase }, { on := 11, ground := Ground.phase }, { on := 12, ground := Ground.phase }, { on := 13, ground := Ground.phase }, { on := 14, ground := Ground.phase }, { on := 15, ground := Ground.phase }, { on := 16, ground := Ground.phase }, { on := 17, ground := Ground.phase }, { on := 18, ground := Ground.phase }], guard := none }) (v := ?v35x17) rfl (by kernel_rfl) (by kernel_rfl) (by kernel_rfl) (fun _ _ _ h => h) (Or.inl ⟨by rfl, ?y35x17⟩) hn ?r35x17
            case y35x17 => (intro wS hS; (try go_simp); (try with_reducible rfl))
            try simp only [Act.put, List.setIfInBounds_toArray, List.set_cons_zero, List.set_cons_succ]
            refine wpAnyH_take (i := 20) (oi := { dst := some 76, op := Op.fieldAddr 34 (Operand.tmp 1) 6, type := 0, pos := "instr.go:64", after := #[{ on := 0, ground := Ground.phase }, { on := 1, ground := Ground.phase }, { on := 2, ground := Ground.phase }, { on := 3, ground := Ground.phase }, { on := 4, ground := Ground.phase }, { on := 5, ground := Ground.phase }, { on := 6, ground := Ground.phase }, { on := 7, ground := Ground.phase }, { on := 8, ground := Ground.phase }, { on := 9, ground := Ground.phase }, { on := 10, ground := Ground.phase }, { on := 11, ground := Ground.phase }, { on := 12, ground := Ground.phase }, { on := 13, ground := Ground.phase }, { on := 14, ground := Ground.phase }, { on := 15, ground := Ground.phase }, { on := 16, ground := Ground.phase }, { on := 17, ground := Ground.phase }, { on := 18, ground := Ground.phase }, { on := 19, ground := Ground.phase }], guard := none }) (v := ?v35x18) rfl (by kernel_rfl) (by kernel_rfl) (by kernel_rfl) (fun _ _ _ h => h) (Or.inl ⟨by rfl, ?y35x18⟩) hn ?r35x18
            case y35x18 => (intro wS hS; (try go_simp); (try with_reducible rfl))
            try simp only [Act.put, List.setIfInBounds_toArray, List.set_cons_zero, List.set_cons_succ]
            refine wpAnyH_ready (rs := [21]) (by kernel_rfl) (by simp) ?_
            refine AllReadyH.cons (o := { dst := none, op := Op.store 9 (Operand.tmp 76) (Operand.const (Value.string { data := #[] })), type := 0, pos := "instr.go:64", after := #[{ on := 20, ground := Ground.data }, { on := 19, ground := Ground.chain }, { on := 0, ground := Ground.phase }, { on := 1, ground := Ground.phase }, { on := 2, ground := Ground.phase }, { on := 3, ground := Ground.phase }, { on := 4, ground := Ground.phase }, { on := 5, ground := Ground.phase }, { on := 6, ground := Ground.phase }, { on := 7, ground := Ground.phase }, { on := 8, ground := Ground.phase }, { on := 9, ground := Ground.phase }, { on := 10, ground := Ground.phase }, { on := 11, ground := Ground.phase }, { on := 12, ground := Ground.phase }, { on := 13, ground := Ground.phase }, { on := 14, ground := Ground.phase }, { on := 15, ground := Ground.phase }, { on := 16, ground := Ground.phase }, { on := 17, ground := Ground.phase }, { on := 18, ground := Ground.phase }, { on := 19, ground := Ground.phase }], guard := none }) rfl (fun K hK => ?_) AllReadyH.nil
            have z9 := cellAt hbx 9 (v := .string raw) rfl
            have f9 := frozenAt hbx 9
            go_simp
            have hbx := hp_set hbx 9 (.string ⟨#[]⟩)
            have hn : (fun w' => New w w' ∧ w'.heap[wa.heap.size]? = some (.cells #[.int .i64 14, .int .i64 ln] 66)) (wr.setCell ⟨w.heap.size, 9, none⟩ (.string ⟨#[]⟩)) := ⟨setNew hn.1 9 _, hp_other hn.2 HNE.out⟩
            refine hK.out _ _ (by first | exact hn | exact Upd.alloc hn _) (fun hn => ?_)
            clear hK K
            try simp only [Act.put, List.setIfInBounds_toArray, List.set_cons_zero, List.set_cons_succ]
            refine wpAnyH_done (by kernel_rfl) ?_ _
            refine NoPanic.normal ?_
            go_wp2_with fail
            go_meet
            exact ⟨_, (.slice al li.length cl), (.slice au (lb ty).length cu), rfl, (by have h := has_ne HBH.out; simp [ownQ, h]), hbx, hn.1, HL.out.new hn.1, HU.out.new hn.1⟩
          refine AllReadyH.cons (o := { dst := some 62, op := Op.load 9 (Operand.tmp 61), type := 9, pos := "instr.go:64", after := #[{ on := 4, ground := Ground.data }, { on := 1, ground := Ground.guard }], guard := some (1, true) }) rfl (fun K hK => ?_) AllReadyH.nil
          have z9 := cellAt hbx 9 (v := .string raw) rfl
          go_simp
          refine hK.out _ _ (by first | exact hn | exact Upd.alloc hn _) (fun hn => ?_)
          clear hK K
          try simp only [Act.put, List.setIfInBounds_toArray, List.set_cons_zero, List.set_cons_succ]
          refine wpAnyH_take (i := 6) (oi := { dst := some 63, op := Op.call { callee := Callee.builtin Builtin.len, args := #[Operand.tmp 62], argTypes := #[9] }, type := 3, pos := "instr.go:64", after := #[{ on := 5, ground := Ground.data }, { on := 1, ground := Ground.guard }], guard := some (1, true) }) (v := ?v35x19) rfl (by kernel_rfl) (by kernel_rfl) (by kernel_rfl) (fun _ _ _ h => h) (Or.inl ⟨by rfl, ?y35x19⟩) hn ?r35x19
          case y35x19 => (intro wS hS; (try go_simp); (try with_reducible rfl))
          try simp only [Act.put, List.setIfInBounds_toArray, List.set_cons_zero, List.set_cons_succ]
          refine wpAnyH_ready (rs := [3]) (by kernel_rfl) (by simp) ?_
          refine AllReadyH.cons (o := { dst := some 60, op := Op.call { callee := Callee.value (Operand.func 31), args := #[Operand.tmp 59], argTypes := #[66] }, type := 70, pos := "instr.go:64", after := #[{ on := 2, ground := Ground.data }, { on := 1, ground := Ground.chain }, { on := 1, ground := Ground.guard }], guard := some (1, true) }) rfl (fun K hK => ?_) AllReadyH.nil
          go_simp
          refine (HS2.out _ _).mono ?_
          rintro e wq ⟨rfl, hnq⟩
          go_wp2_with fail
          have hbx := hp1 hbx hnq
          have hn : (fun w' => New w w' ∧ w'.heap[wa.heap.size]? = some (.cells #[.int .i64 14, .int .i64 ln] 66)) wq := ⟨New.trans hn.1 hnq, hp1 hn.2 hnq⟩
          refine hK.out _ _ (by first | exact hn | exact Upd.alloc hn _) (fun hn => ?_)
          clear hK K
          try simp only [Act.put, List.setIfInBounds_toArray, List.set_cons_zero, List.set_cons_succ]
          refine wpAnyH_ready (rs := [7]) (by kernel_rfl) (by simp) ?_
          refine AllReadyH.cons (o := { dst := some 64, op := Op.call { callee := Callee.value (Operand.func 32), args := #[Operand.tmp 60, Operand.tmp 63], argTypes := #[70, 3] }, type := 4, pos := "instr.go:64", after := #[{ on := 3, ground := Ground.data }, { on := 6, ground := Ground.data }, { on := 3, ground := Ground.chain }, { on := 1, ground := Ground.guard }], guard := some (1, true) }) rfl (fun K hK => ?_) AllReadyH.nil
          go_simp
          refine (HH2.out _).mono ?_
          rintro e wr ⟨rfl, hnq⟩
          go_wp2_with fail
          have hbx := hp1 hbx hnq
          have hn : (fun w' => New w w' ∧ w'.heap[wa.heap.size]? = some (.cells #[.int .i64 14, .int .i64 ln] 66)) wr := ⟨New.trans hn.1 hnq, hp1 hn.2 hnq⟩
          refine hK.out _ _ (by first | exact hn | exact Upd.alloc hn _) (fun hn => ?_)
          clear hK K
          try simp only [Act.put, List.setIfInBounds_toArray, List.set_cons_zero, List.set_cons_succ]
          refine wpAnyH_take (i := 8) (oi := { dst := some 65, op := Op.pick (Operand.tmp 58) (Operand.tmp 64) (Operand.const (Value.bool false)), type := 4, pos := "instr.go:64", after := #[{ on := 1, ground := Ground.data }, { on := 7, ground := Ground.data }], guard := none }) (v := ?v35x20) rfl (by kernel_rfl) (by kernel_rfl) (by kernel_rfl) (fun _ _ _ h => h) (Or.inl ⟨by rfl, ?y35x20⟩) hn ?r35x20
          case y35x20 => (intro wS hS; (try go_simp); (try with_reducible rfl))
          try simp only [Act.put, List.setIfInBounds_toArray, List.set_cons_zero, List.set_cons_succ]
          refine wpAnyH_take (i := 9) (oi := { dst := some 66, op := Op.move (Operand.tmp 65), type := 4, pos := "instr.go:64", after := #[{ on := 8, ground := Ground.data }, { on := 7, ground := Ground.chain }], guard := none }) (v := ?v35x21) rfl (by kernel_rfl) (by kernel_rfl) (by kernel_rfl) (fun _ _ _ h => h) (Or.inl ⟨by rfl, ?y35x21⟩) hn ?r35x21
          case y35x21 => (intro wS hS; (try go_simp); (try with_reducible rfl))
          try simp only [Act.put, List.setIfInBounds_toArray, List.set_cons_zero, List.set_cons_succ]
          refine wpAnyH_take (i := 10) (oi := { dst := some 67, op := Op.fieldAddr 66 (Operand.tmp 3) 0, type := 0, pos := "instr.go:64", after := #[{ on := 9, ground := Ground.guard }], guard := some (9, true) }) (v := undef) rfl (by kernel_rfl) (by kernel_rfl) (by kernel_rfl) (fun _ _ _ h => h) (Or.inr ⟨by rfl, rfl⟩) hn ?_
          try simp only [Act.put, List.setIfInBounds_toArray, List.set_cons_zero, List.set_cons_succ]
          refine wpAnyH_take (i := 11) (oi := { dst := some 68, op := Op.load 3 (Operand.tmp 67), type := 3, pos := "instr.go:64", after := #[{ on := 10, ground := Ground.data }, { on := 9, ground := Ground.guard }], guard := some (9, true) }) (v := undef) rfl (by kernel_rfl) (by kernel_rfl) (by kernel_rfl) (fun _ _ _ h => h) (Or.inr ⟨by rfl, rfl⟩) hn ?_
          try simp only [Act.put, List.setIfInBounds_toArray, List.set_cons_zero, List.set_cons_succ]
          refine wpAnyH_take (i := 12) (oi := { dst := some 69, op := Op.binOp BinOp.neq 3 (Operand.tmp 68) (Operand.const (Value.int IntKind.i64 14)) 3, type := 4, pos := "instr.go:64", after := #[{ on := 11, ground := Ground.data }, { on := 9, ground := Ground.guard }], guard := some (9, true) }) (v := undef) rfl (by kernel_rfl) (by kernel_rfl) (by kernel_rfl) (fun _ _ _ h => h) (Or.inr ⟨by rfl, rfl⟩) hn ?_
          try simp only [Act.put, List.setIfInBounds_toArray, List.set_cons_zero, List.set_cons_succ]
          refine wpAnyH_take (i := 13) (oi := { dst := some 70, op := Op.move (Operand.tmp 69), type := 4, pos := "instr.go:64", after := #[{ on := 12, ground := Ground.data }, { on := 9, ground := Ground.chain }, { on := 9, ground := Ground.guard }], guard := some (9, true) }) (v := undef) rfl (by kernel_rfl) (by kernel_rfl) (by kernel_rfl) (fun _ _ _ h => h) (Or.inr ⟨by rfl, rfl⟩) hn ?_
          try simp only [Act.put, List.setIfInBounds_toArray, List.set_cons_zero, List.set_cons_succ]
          refine wpAnyH_take (i := 14) (oi := { dst := some 71, op := Op.fieldAddr 34 (Operand.tmp 1) 6, type := 0, pos := "instr.go:64", after := #[{ on := 13, ground := Ground.guard }], guard := some (13, false) }) (v := undef) rfl (by kernel_rfl) (by kernel_rfl) (by kernel_rfl) (fun _ _ _ h => h) (Or.inr ⟨by rfl, rfl⟩) hn ?_
          try simp only [Act.put, List.setIfInBounds_toArray, List.set_cons_zero, List.set_cons_succ]
          refine wpAnyH_take (i := 15) (oi := { dst := some 72, op := Op.load 9 (Operand.tmp 71), type := 9, pos := "instr.go:64", after := #[{ on := 14, ground := Ground.data }, { on := 13, ground := Ground.guard }], guard := some (13, false) }) (v := undef) rfl (by kernel_rfl) (by kernel_rfl) (by kernel_rfl) (fun _ _ _ h => h) (Or.inr ⟨by rfl, rfl⟩) hn ?_
          try simp only [Act.put, List.setIfInBounds_toArray, List.set_cons_zero, List.set_cons_succ]
          refine wpAnyH_take (i := 16) (oi := { dst := some 73, op := Op.call { callee := Callee.value (Operand.func 33), args := #[Operand.tmp 72], argTypes := #[9] }, type := 4, pos := "instr.go:64", after := #[{ on := 15, ground := Ground.data }, { on := 13, ground := Ground.chain }, { on := 13, ground := Ground.guard }], guard := some (13, false) }) (v := undef) rfl (by kernel_rfl) (by kernel_rfl) (by kernel_rfl) (fun _ _ _ h => h) (Or.inr ⟨by rfl, rfl⟩) hn ?_
          try simp only [Act.put, List.setIfInBounds_toArray, List.set_cons_zero, List.set_cons_succ]
          refine wpAnyH_take (i := 17) (oi := { dst := some 74, op := Op.pick (Operand.tmp 70) (Operand.const (Value.bool true)) (Operand.tmp 73), type := 4, pos := "instr.go:64", after := #[{ on := 13, ground := Ground.data }, { on := 16, ground := Ground.data }, { on := 9, ground := Ground.guard }], guard := some (9, true) }) (v := undef) rfl (by kernel_rfl) (by kernel_rfl) (by kernel_rfl) (fun _ _ _ h => h) (Or.inr ⟨by rfl, rfl⟩) hn ?_
          try simp only [Act.put, List.setIfInBounds_toArray, List.set_cons_zero, List.set_cons_succ]
          refine wpAnyH_take (i := 18) (oi := { dst := some 75, op := Op.pick (Operand.tmp 66) (Operand.tmp 74) (Operand.const (Value.bool false)), type := 4, pos := "instr.go:64", after := #[{ on := 9, ground := Ground.data }, { on := 17, ground := Ground.data }], guard := none }) (v := ?v35x30) rfl (by kernel_rfl) (by kernel_rfl) (by kernel_rfl) (fun _ _ _ h => h) (Or.inl ⟨by rfl, ?y35x30⟩) hn ?r35x30
          case y35x30 => (intro wS hS; (try go_simp); (try with_reducible rfl))
          try simp only [Act.put, List.setIfInBounds_toArray, List.set_cons_zero, List.set_cons_succ]
          refine wpAnyH_take (i := 19) (oi := { dst := some 4, op := Op.assign (Operand.tmp 75), type := 4, pos := "instr.go:64", after := #[{ on := 18, ground := Ground.data }, { on := 16, ground := Ground.chain }, { on := 0, ground := Ground.phase }, { on := 1, ground := Ground.phase }, { on := 2, ground := Ground.phase }, { on := 3, ground := Ground.phase }, { on := 4, ground := Ground.phase }, { on := 5, ground := Ground.phase }, { on := 6, ground := Ground.phase }, { on := 7, ground := Ground.phase }, { on := 8, ground := Ground.phase }, { on := 9, ground := Ground.phase }, { on := 10, ground := Ground.phase }, { on := 11, ground := Ground.phase }, { on := 12, ground := Ground.phase }, { on := 13, ground := Ground.phase }, { on := 14, ground := Ground.phase }, { on := 15, ground := Ground.phase }, { on := 16, ground := Ground.phase }, { on := 17, ground := Ground.phase }, { on := 18, ground := Ground.phase }], guard := none }) (v := ?v35x31) rfl (by kernel_rfl) (by kernel_rfl) (by kernel_rfl) (fun _ _ _ h => h) (Or.inl ⟨by rfl, ?y35x31⟩) hn ?r35x31
          case y35x31 => (intro wS hS; (try go_simp); (try with_reducible rfl))
          try simp only [Act.put, List.setIfInBounds_toArray, List.set_cons_zero, List.set_cons_succ]
          refine wpAnyH_take (i := 20) (oi := { dst := some 76, op := Op.fieldAddr 34 (Operand.tmp 1) 6, type := 0, pos := "instr.go:64", after := #[{ on := 0, ground := Ground.phase }, { on := 1, ground := Ground.phase }, { on := 2, ground := Ground.phase }, { on := 3, ground := Ground.phase }, { on := 4, ground := Ground.phase }, { on := 5, ground := Ground.phase }, { on := 6, ground := Ground.phase }, { on := 7, ground := Ground.phase }, { on := 8, ground := Ground.phase }, { on := 9, ground := Ground.phase }, { on := 10, ground := Ground.phase }, { on := 11, ground := Ground.phase }, { on := 12, ground := Ground.phase }, { on := 13, ground := Ground.phase }, { on := 14, ground := Ground.phase }, { on := 15, ground := Ground.phase }, { on := 16, ground := Ground.phase }, { on := 17, ground := Ground.phase }, { on := 18, ground := Ground.phase }, { on := 19, ground := Ground.phase }], guard := none }) (v := ?v35x32) rfl (by kernel_rfl) (by kernel_rfl) (by kernel_rfl) (fun _ _ _ h => h) (Or.inl ⟨by rfl, ?y35x32⟩) hn ?r35x32
          case y35x32 => (intro wS hS; (try go_simp); (try with_reducible rfl))
          try simp only [Act.put, List.setIfInBounds_toArray, List.set_cons_zero, List.set_cons_succ]
          refine wpAnyH_ready (rs := [21]) (by kernel_rfl) (by simp) ?_
          refine AllReadyH.cons (o := { dst := none, op := Op.store 9 (Operand.tmp 76) (Operand.const (Value.string { data := #[] })), type := 0, pos := "instr.go:64", after := #[{ on := 20, ground := Ground.data }, { on := 19, ground := Ground.chain }, { on := 0, ground := Ground.phase }, { on := 1, ground := Ground.phase }, { on := 2, ground := Ground.phase }, { on := 3, ground := Ground.phase }, { on := 4, ground := Ground.phase }, { on := 5, ground := Ground.phase }, { on := 6, ground := Ground.phase }, { on := 7, ground := Ground.phase }, { on := 8, ground := Ground.phase }, { on := 9, ground := Ground.phase }, { on := 10, ground := Ground.phase }, { on := 11, ground := Ground.phase }, { on := 12, ground := Ground.phase }, { on := 13, ground := Ground.phase }, { on := 14, ground := Ground.phase }, { on := 15, ground := Ground.phase }, { on := 16, ground := Ground.phase }, { on := 17, ground := Ground.phase }, { on := 18, ground := Ground.phase }, { on := 19, ground := Ground.phase }], guard := none }) rfl (fun K hK => ?_) AllReadyH.nil
          have z9 := cellAt hbx 9 (v := .string raw) rfl
          have f9 := frozenAt hbx 9
          go_simp
          have hbx := hp_set hbx 9 (.string ⟨#[]⟩)
          have hn : (fun w' => New w w' ∧ w'.heap[wa.heap.size]? = some (.cells #[.int .i64 14, .int .i64 ln] 66)) (wr.setCell ⟨w.heap.size, 9, none⟩ (.string ⟨#[]⟩)) := ⟨setNew hn.1 9 _, hp_other hn.2 HNE.out⟩
          refine hK.out _ _ (by first | exact hn | exact Upd.alloc hn _) (fun hn => ?_)
          clear hK K
          try simp only [Act.put, List.setIfInBounds_toArray, List.set_cons_zero, List.set_cons_succ]
          refine wpAnyH_done (by kernel_rfl) ?_ _
          refine NoPanic.normal ?_
          go_wp2_with fail
          go_meet
          exact ⟨_, (.slice al li.length cl), (.slice au (lb ty).length cu), rfl, (by have h := has_ne HBH.out; simp [ownQ, h]), hbx, hn.1, HL.out.new hn.1, HU.out.new hn.1⟩
      · -- 15
        have y1 : wb.cell? ⟨wa.heap.size, 1, none⟩ = some (.int .i64 ln) := cellAt HI.out 1 rfl
        have z10 : wb.cell? ⟨w.heap.size, 10, none⟩ = some (.int .u8 lane) := cellAt HB.out 10 rfl
        have f10 : wb.frozen? ⟨w.heap.size, 10, none⟩ = false := frozenAt HB.out 10
        go_wp2_with fail
        go_meet
        have hn := (setNew HN.out 10 (.int .u8 0))
        exact ⟨_, (.slice al li.length cl), (.slice au (lb ty).length cu), rfl, (by simp [ownQ]), (hp_set HB.out 10 (.int .u8 0)), hn, (HL.out.new hn), (HU.out.new hn)⟩
      · -- 16
        have y1 : wb.cell? ⟨wa.heap.size, 1, none⟩ = some (.int .i64 ln) := cellAt HI.out 1 rfl
        have z5 : wb.cell? ⟨w.heap.size, 5, none⟩ = some (.int .u32 x) := cellAt HB.out 5 rfl
        have z6 : wb.cell? ⟨w.heap.size, 6, none⟩ = some (.int .u32 y) := cellAt HB.out 6 rfl
        have z10 : wb.cell? ⟨w.heap.size, 10, none⟩ = some (.int .u8 lane) := cellAt HB.out 10 rfl
        have f5 : wb.frozen? ⟨w.heap.size, 5, none⟩ = false := frozenAt HB.out 5
        have f6 : wb.frozen? ⟨w.heap.size, 6, none⟩ = false := frozenAt HB.out 6
        have f10 : wb.frozen? ⟨w.heap.size, 10, none⟩ = false := frozenAt HB.out 10
        go_wp2_with fail
        go_meet
        have hn := (setNew (setNew (setNew HN.out 5 (.int .u32 0)) 6 (.int .u32 0)) 10 (.int .u8 0))
        exact ⟨_, (.slice al li.length cl), (.slice au (lb ty).length cu), rfl, (by simp [ownQ]), (hp_set (hp_set (hp_set HB.out 5 (.int .u32 0)) 6 (.int .u32 0)) 10 (.int .u8 0)), hn, (HL.out.new hn), (HU.out.new hn)⟩
      · -- 17
        by_cases h17 : (lb ty).length = 1
        · obtain ⟨x0, hx0⟩ := len_pos_at h17
          have b17 : (((lb ty).length : Int) == 1) = true := by rw [h17]; rfl
          obtain ⟨a3, c3, e, _, _, hcell⟩ := HU.out.new HN.out
          cases e
          obtain ⟨bb, oo, rfl, hce⟩ := hcell (by rw [hx0]; simp)
          have hc0 : wb.cell? ⟨bb, oo, none⟩ = some (.int .u8 x0.toNat) := by
            have := hce 0 (by omega)
            simpa [hx0, cb] using this
          have HX := hid hx0
          have hl1 : 0 < (lb ty).length := by omega
          clear hx0 hce hcell h17
          have z11 : wb.cell? ⟨w.heap.size, 11, none⟩ = some (.slice (some ⟨bb, oo, none⟩) (lb ty).length cu) := cellAt HB.out 11 rfl
          go_wp2_with fail
          refine (HVR.out _ _).mono ?_
          rintro e wd ⟨rfl, rfl⟩
          have f11 : wb.frozen? ⟨w.heap.size, 11, none⟩ = false := frozenAt HB.out 11
          go_wp2_with fail
          go_meet
          have hn := (setNew HN.out 11 (.slice none 0 0))
          exact ⟨_, (.slice al li.length cl), (.slice none 0 0), rfl, (by simp [ownQ, HX.out, ref1]), (hp_set HB.out 11 (.slice none 0 0)), hn, (HL.out.new hn), (Rd.nil _)⟩
        · have b17 : (((lb ty).length : Int) == 1) = false := by rw [beq_eq_false_iff_ne]; omega
          have HX := hid h17
          clear h17
          have z11 : wb.cell? ⟨w.heap.size, 11, none⟩ = some (.slice au (lb ty).length cu) := cellAt HB.out 11 rfl
          have f11 : wb.frozen? ⟨w.heap.size, 11, none⟩ = false := frozenAt HB.out 11
          go_wp2_with fail
          go_meet
          have hn := (setNew HN.out 11 (.slice none 0 0))
          exact ⟨_, (.slice al li.length cl), (.slice none 0 0), rfl, (by simp [ownQ, ref1_not HX.out]), (hp_set HB.out 11 (.slice none 0 0)), hn, (HL.out.new hn), (Rd.nil _)⟩
      · -- 18
        have z11 : wb.cell? ⟨w.heap.size, 11, none⟩ = some (.slice au (lb ty).length cu) := cellAt HB.out 11 rfl
        have f11 : wb.frozen? ⟨w.heap.size, 11, none⟩ = false := frozenAt HB.out 11
        go_wp2_with fail
        refine (HFR.out _ HN.out).mono ?_
        rintro e wd ⟨rfl, hnd⟩
        have HD := hid (New.trans HN.out hnd)
        have HB2 := hid (hp1 HB.out hnd)
        clear z11 f11
        have z11 : wd.cell? ⟨w.heap.size, 11, none⟩ = some (.slice au (lb ty).length cu) := cellAt HB2.out 11 rfl
        have f11 : wd.frozen? ⟨w.heap.size, 11, none⟩ = false := frozenAt HB2.out 11
        go_wp2_with fail
        go_meet
        have hn := (setNew HD.out 11 (.slice none 0 0))
        exact ⟨_, (.slice al li.length cl), (.slice none 0 0), rfl, (by simp [ownQ, valsV]), (hp_set HB2.out 11 (.slice none 0 0)), hn, (HL.out.new hn), (Rd.nil _)⟩
      · obtain ⟨h1, h2, h3, h4, h5, h8, h9, h10, h11, h12, h13, h14, h15, h16, h17, h18⟩ := ho
        have HO : Hid (ownQ s ln ⟨p, c, k, t, i, x, y, li, n, raw, lane, ty⟩) := own_plain ⟨h1, h2, h3, h4, h5, h8, h9, h10, h11, h12, h13, h14, h15, h16, h17, h18⟩
        have e1 : (s == 1) = false := beq_eq_false_iff_ne.mpr h1
        have e2 : (s == 2) = false := beq_eq_false_iff_ne.mpr h2
        have e3 : (s == 3) = false := beq_eq_false_iff_ne.mpr h3
        have e4 : (s == 4) = false := beq_eq_false_iff_ne.mpr h4
        have e5 : (s == 5) = false := beq_eq_false_iff_ne.mpr h5
        have e8 : (s == 8) = false := beq_eq_false_iff_ne.mpr h8
        have e9 : (s == 9) = false := beq_eq_false_iff_ne.mpr h9
        have e10 : (s == 10) = false := beq_eq_false_iff_ne.mpr h10
        have e11 : (s == 11) = false := beq_eq_false_iff_ne.mpr h11
        have e12 : (s == 12) = false := beq_eq_false_iff_ne.mpr h12
        have e13 : (s == 13) = false := beq_eq_false_iff_ne.mpr h13
        have e14 : (s == 14) = false := beq_eq_false_iff_ne.mpr h14
        have e15 : (s == 15) = false := beq_eq_false_iff_ne.mpr h15
        have e16 : (s == 16) = false := beq_eq_false_iff_ne.mpr h16
        have e17 : (s == 17) = false := beq_eq_false_iff_ne.mpr h17
        have e18 : (s == 18) = false := beq_eq_false_iff_ne.mpr h18
        have HZ := hid hz
        have HS := hid hs
        clear h1 h2 h3 h4 h5 h8 h9 h10 h11 h12 h13 h14 h15 h16 h17 h18 hz hs
        go_wp2_with fail
        go_meet
        rw [HZ.out]
        exact ⟨_, _, _, rfl, (by simp [HO.out, HS.out]), HB.out, HN.out, HL.out.new HN.out, HU.out.new HN.out⟩
    · have hz : zap s ⟨p, c, k, t, i, x, y, li, n, raw, lane, ty⟩ = ⟨p, c, k, t, i, x, y, li, n, raw, lane, ty⟩ := by
        rcases shapes s with h | h | h | h | h | h | h | h | h | h | h | h | h | h | h | h | ⟨h, _⟩
        all_goals first | omega | exact h _
      have HZ := hid hz
      have HS := hid hs
      clear hz hs
      go_wp2_with fail
      go_meet
      rw [HZ.out]
      exact ⟨_, _, _, rfl, ⟨(fun h => by cases h), (fun h => absurd h.1 (Int.not_le.mpr HS.out))⟩, HB.out, HN.out, HL.out.new HN.out, HU.out.new HN.out⟩
  case rest =>
    obtain ⟨b, l', u', rfl, hbq, hbox, hn, hrl, hru⟩ := hcut
    have hs1 : (zap s ⟨p, c, k, t, i, x, y, li, n, raw, lane, ty⟩).li.length ≤ 1000000 := by
      show (if s = 4 then [] else li).length ≤ _
      split
      · simp
      · exact s1
    have hs3 : (zap s ⟨p, c, k, t, i, x, y, li, n, raw, lane, ty⟩).ty.size ≤ 1000000 := by
      show (if s = 17 ∨ s = 18 then (⟨#[]⟩ : ByteArray) else ty).size ≤ _
      split
      · show (0 : Nat) ≤ _
        omega
      · exact s3
    have hp1 : (zap s ⟨p, c, k, t, i, x, y, li, n, raw, lane, ty⟩).p = p := rfl
    have hp2 : (zap s ⟨p, c, k, t, i, x, y, li, n, raw, lane, ty⟩).c = c := rfl
    generalize zap s ⟨p, c, k, t, i, x, y, li, n, raw, lane, ty⟩ = m' at *
    have HSM := hid (pSame_any m' (zeroI p c) l' (.slice none 0 0) u' (.slice none 0 0) wc hrl (RdM.nil _ _) hru (Rd.nil _) hs1 (by simp [zeroI]) hs3 (by show (0 : Nat) ≤ _; omega))
    obtain ⟨p', c', k', t', i', x', y', li', n', raw', lane', ty'⟩ := m'
    simp only at hp1 hp2
    subst hp1 hp2
    unfold pI zeroI at HSM
    simp only at HSM
    have HBX := hid hbox
    have HBQ := hid hbq
    have HNC := hid hn
    obtain ⟨al', cl', rfl⟩ := hrl.shape
    obtain ⟨au', cu', rfl⟩ := hru.shape
    clear hbox hbq hn hrl hru hs1 hs3 HB HN HI HL HU
    cases b with
    | false =>
      go_wp2_with fail
      go_ret
      refine ⟨false, rfl, ⟨(fun h => by cases h), (fun h => ?_)⟩, HNC.out⟩
      rw [hQ2.out] at h
      exact HBQ.out.mpr ⟨h.1, h.2.1⟩
    | true =>
      have z0 : wc.cell? ⟨w.heap.size, 0, none⟩ = some (.int .u8 p') := cellAt HBX.out 0 rfl
      have z1 : wc.cell? ⟨w.heap.size, 1, none⟩ = some (.int .u32 c') := cellAt HBX.out 1 rfl
      have z2 : wc.cell? ⟨w.heap.size, 2, none⟩ = some (.int .i64 k') := cellAt HBX.out 2 rfl
      have z3 : wc.cell? ⟨w.heap.size, 3, none⟩ = some (.int .u8 t') := cellAt HBX.out 3 rfl
      have z4 : wc.cell? ⟨w.heap.size, 4, none⟩ = some (.int .u32 i') := cellAt HBX.out 4 rfl
      have z5 : wc.cell? ⟨w.heap.size, 5, none⟩ = some (.int .u32 x') := cellAt HBX.out 5 rfl
      have z6 : wc.cell? ⟨w.heap.size, 6, none⟩ = some (.int .u32 y') := cellAt HBX.out 6 rfl
      have z7 : wc.cell? ⟨w.heap.size, 7, none⟩ = some (.slice al' li'.length cl') := cellAt HBX.out 7 rfl
      have z8 : wc.cell? ⟨w.heap.size, 8, none⟩ = some (.int .i64 n') := cellAt HBX.out 8 rfl
      have z9 : wc.cell? ⟨w.heap.size, 9, none⟩ = some (.string raw') := cellAt HBX.out 9 rfl
      have z10 : wc.cell? ⟨w.heap.size, 10, none⟩ = some (.int .u8 lane') := cellAt HBX.out 10 rfl
      have z11 : wc.cell? ⟨w.heap.size, 11, none⟩ = some (.slice au' (lb ty').length cu') := cellAt HBX.out 11 rfl
      go_wp2_with fail
      refine HSM.out.mono ?_
      rintro e wd ⟨b2, rfl, hb2, hnd⟩
      have HB2 := hid hb2
      have HND := hid (New.trans HNC.out hnd)
      clear hb2 hnd
      clear z0 z1 z2 z3 z4 z5 z6 z7 z8 z9 z10 z11
      go_wp2_with fail
      go_ret
      refine ⟨b2, rfl, ?_, HND.out⟩
      rw [hQ2.out, HB2.out]
      have := HBQ.out.mp (by first | rfl | trivial)
      exact ⟨fun h => ⟨this.1, this.2, h⟩, fun h => h.2.2⟩
end Go.Proofs.Ytnngibflnnmioaa
