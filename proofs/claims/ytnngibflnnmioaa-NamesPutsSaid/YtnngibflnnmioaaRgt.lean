/-
  Whether an instruction may be: the program's Right.
-/
import Derived.Test.YtnngibflnnmioaaIns
import Derived.Test.YtnngibflnnmioaaOpI
import Derived.Test.YtnngibflnnmioaaSpnP
namespace Go.Proofs.Ytnngibflnnmioaa
open Go.RowKit Go.Proofs.Leb Go.Proofs.Own
set_option maxRecDepth 100000
set_option maxHeartbeats 8000000

/-- an instruction without what its op has -/
def zap (s : Int) (m : Ins) : Ins where
  p := m.p
  c := m.c
  k := if s = 1 then 0 else m.k
  t := if s = 1 then 0 else m.t
  i := if s = 1 then 0 else m.i
  x := if s = 2 ∨ s = 3 ∨ s = 4 ∨ s = 5 ∨ s = 8 ∨ s = 16 then 0 else m.x
  y := if s = 3 ∨ s = 5 ∨ s = 16 then 0 else m.y
  li := if s = 4 then [] else m.li
  n := if s = 9 ∨ s = 10 then 0 else m.n
  raw := if s = 11 ∨ s = 12 ∨ s = 13 ∨ s = 14 then ⟨#[]⟩ else m.raw
  lane := if s = 15 ∨ s = 16 then 0 else m.lane
  ty := if s = 17 ∨ s = 18 then ⟨#[]⟩ else m.ty
def zeroI (p c : Int) : Ins := ⟨p, c, 0, 0, 0, 0, 0, [], 0, ⟨#[]⟩, 0, ⟨#[]⟩⟩
def ref1 (l : List UInt8) : Bool := match l with | [x] => refV x.toNat | _ => false
def small (l : List UInt8) : Bool := l.all fun x => decide ((x.toNat : Int) < 32)
/-- what is asked of what its op has -/
def ownQ (s ln : Int) (m : Ins) : Prop :=
  (s = 1 → btV m.k m.t m.i = true) ∧ (s = 9 → -2147483648 ≤ m.n ∧ m.n ≤ 2147483647) ∧ (s = 11 → m.raw.size = 4) ∧ (s = 12 → m.raw.size = 8) ∧ (s = 13 ∨ s = 14 → m.raw.size = 16) ∧
  (s = 14 → small (lb m.raw) = true) ∧ (s = 15 ∨ s = 16 → m.lane < ln) ∧ (s = 17 → ref1 (lb m.ty) = true) ∧ (s = 18 → valsV (lb m.ty) = true)
def RightQ (m : Ins) : Prop := 0 ≤ (shapeV m.p m.c).1 ∧ ownQ (shapeV m.p m.c).1 (shapeV m.p m.c).2 m ∧ zap (shapeV m.p m.c).1 m = zeroI m.p m.c

/-- the instruction's block -/
def cells (m : Ins) (l u : Value) : Array Value := #[.int .u8 m.p, .int .u32 m.c, .int .i64 m.k, .int .u8 m.t, .int .u32 m.i, .int .u32 m.x, .int .u32 m.y, l, .int .i64 m.n, .string m.raw, .int .u8 m.lane, u]
def Box (w : World) (g : Nat) (m : Ins) (l u : Value) : Prop := w.heap[g]? = some (.cells (cells m l u) 34)
theorem hp_set {w : World} {g : Nat} {cs : Array Value} {t : TypeId} (h : w.heap[g]? = some (.cells cs t)) (i : Nat) (v : Value) : (w.setCell ⟨g, i, none⟩ v).heap[g]? = some (.cells (cs.setIfInBounds i v) t) := by
  show (w.heap.modify g _)[g]? = _
  rw [Array.getElem?_modify, if_pos rfl, h]
  rfl

theorem hp_other {w : World} {g k i : Nat} {o : Obj} {v : Value} (h : w.heap[k]? = some o) (hne : g ≠ k) : (w.setCell ⟨g, i, none⟩ v).heap[k]? = some o := by
  show (w.heap.modify g _)[k]? = _
  rw [Array.getElem?_modify, if_neg hne]
  exact h
theorem has_eq {k : Int} {n : Nat} (h : Span.has k k n = true) (hk : k < 1099511627776 := by decide) : (n : Int) = k := by
  unfold Span.has at h
  simp at h
  omega
theorem has_ne {k n : Nat} (h : Span.has k k n = false) : ¬ n = k := by
  intro e
  subst e
  unfold Span.has at h
  simp at h
theorem setNew {w wb : World} (h : New w wb) (i : Nat) (v : Value) : New w (wb.setCell ⟨w.heap.size, i, none⟩ v) := Upd.setCell h (.inl (Nat.le_refl _)) v
theorem frozenAt {w : World} {g : Nat} {cs : Array Value} {t : TypeId} (h : w.heap[g]? = some (.cells cs t)) (i : Nat) : w.frozen? ⟨g, i, none⟩ = false := by simp [World.frozen?, h]
theorem len_pos_at {bs : List UInt8} (h : bs.length = 1) : ∃ x, bs = [x] := List.length_eq_one_iff.mp h
theorem own_plain {s ln : Int} {m : Ins} (h : s ≠ 1 ∧ s ≠ 2 ∧ s ≠ 3 ∧ s ≠ 4 ∧ s ≠ 5 ∧ s ≠ 8 ∧ s ≠ 9 ∧ s ≠ 10 ∧ s ≠ 11 ∧ s ≠ 12 ∧ s ≠ 13 ∧ s ≠ 14 ∧ s ≠ 15 ∧ s ≠ 16 ∧ s ≠ 17 ∧ s ≠ 18) : ownQ s ln m := by
  obtain ⟨h1, h2, h3, h4, h5, h8, h9, h10, h11, h12, h13, h14, h15, h16, h17, h18⟩ := h
  unfold ownQ
  simp [h1, h9, h11, h12, h13, h14, h15, h16, h17, h18]
theorem wrap32 (n : Int) : (n = wrap64 (RowKit.wrap32 n)) ↔ (-2147483648 ≤ n ∧ n ≤ 2147483647) := by
  unfold wrap64 RowKit.wrap32
  constructor
  · intro h; omega
  · intro h; omega
theorem ref1_not {l : List UInt8} (h : ¬ l.length = 1) : ref1 l = false := by
  unfold ref1
  match l, h with
  | [], _ => rfl
  | [x], h => exact absurd rfl h
  | x :: y :: r, _ => rfl
theorem shapes (s : Int) : s = 1 ∨ s = 2 ∨ s = 3 ∨ s = 4 ∨ s = 5 ∨ s = 8 ∨ s = 9 ∨ s = 10 ∨ s = 11 ∨ s = 12 ∨ s = 13 ∨ s = 14 ∨ s = 15 ∨ s = 16 ∨ s = 17 ∨ s = 18 ∨
    ((∀ m, zap s m = m) ∧ (s ≠ 1 ∧ s ≠ 2 ∧ s ≠ 3 ∧ s ≠ 4 ∧ s ≠ 5 ∧ s ≠ 8 ∧ s ≠ 9 ∧ s ≠ 10 ∧ s ≠ 11 ∧ s ≠ 12 ∧ s ≠ 13 ∧ s ≠ 14 ∧ s ≠ 15 ∧ s ≠ 16 ∧ s ≠ 17 ∧ s ≠ 18)) := by
  by_cases h : s = 1 ∨ s = 2 ∨ s = 3 ∨ s = 4 ∨ s = 5 ∨ s = 8 ∨ s = 9 ∨ s = 10 ∨ s = 11 ∨ s = 12 ∨ s = 13 ∨ s = 14 ∨ s = 15 ∨ s = 16 ∨ s = 17 ∨ s = 18
  · omega
  · simp only [not_or] at h
    obtain ⟨h1, h2, h3, h4, h5, h8, h9, h10, h11, h12, h13, h14, h15, h16, h17, h18⟩ := h
    have hz : ∀ m, zap s m = m := fun m => by
      unfold zap
      simp [h1, h2, h3, h4, h5, h8, h9, h10, h11, h12, h13, h14, h15, h16, h17, h18]
    simp [h1, h2, h3, h4, h5, h8, h9, h10, h11, h12, h13, h14, h15, h16, h17, h18, hz]
theorem pRight_any (m : Ins) (l u : Value) (w : World) (c0 : 0 ≤ m.c) (c1 : m.c < 4294967296) (h1 : RdM .u32 w l m.li) (h3 : Rd w u (lb m.ty)) (s1 : m.li.length ≤ 1000000) (s3 : m.ty.size ≤ 1000000) (s2 : m.raw.size ≤ 1000000)
    (n1 : -9223372036854775808 ≤ m.n) (n2 : m.n ≤ 9223372036854775807) (l0 : 0 ≤ m.lane) (l1 : m.lane < 256) :
    Calls Try.prog 8 #[pI m l u] w (SameP (RightQ m) w) := by
  have HF := hid (fun w => Find_any m.p m.c w c0 c1)
  have HLN : Hid (wrap64 m.lane = m.lane) := by show wrap64 m.lane = m.lane; unfold wrap64; omega
  have HBT := hid (fun w => btRight_any m.k m.t m.i w)
  have HSP := hid (fun s l w => infoSpan_any s l w)
  have HHA := hid (fun mn mx n w => has_any mn mx n w)
  have HSH := hid (fun w => shuffles_any m.raw w (by omega))
  have HVR := hid (fun v w => vref_any v w)
  have HFR := hid (fun w' (hn : New w w') => funcRight_any u (.slice none 0 0) (lb m.ty) [] w' (h3.new hn) (by rw [lb_len]; omega) (Rd.nil _) (by decide))
  have hag := find_shape m.p m.c c0
  obtain ⟨q, hq⟩ : ∃ q, RightQ m = q := ⟨_, rfl⟩
  have HQ := hid hq
  rw [hq]
  clear hq
  have hQ2 : Hid (q = (0 ≤ (shapeV m.p m.c).1 ∧ ownQ (shapeV m.p m.c).1 (shapeV m.p m.c).2 m ∧ zap (shapeV m.p m.c).1 m = zeroI m.p m.c)) := HQ.out.symm
  clear HQ
  generalize findV m.p m.c = f at *
  generalize shapeV m.p m.c = r at *
  obtain ⟨f1, f2, f3⟩ := f
  obtain ⟨s, ln⟩ := r
  simp only at *
  obtain ⟨a1, a2⟩ := hag
  simp only at a1 a2
  have hcases : (f3 = true ∧ 0 ≤ s ∧ s = f1 ∧ ln = f2) ∨ (f3 = false ∧ s < 0 ∧ f1 = 0 ∧ f2 = 0) := by
    cases f3 with
    | true => exact .inl ⟨rfl, of_decide_eq_true a1.symm, (by rw [if_pos rfl] at a2; exact ⟨a2.1.symm, a2.2.symm⟩)⟩
    | false => exact .inr ⟨rfl, Int.not_le.mp (of_decide_eq_false a1.symm), (by rw [if_neg (by decide)] at a2; exact a2)⟩
  clear a1 a2
  obtain ⟨w0, hw0⟩ : ∃ w0, w.alloc (.cells (cells m l u) 34) = w0 := ⟨_, rfl⟩
  have HN0 : Hid (New w w0) := by show New _ _; rw [← hw0]; exact (Upd.refl _ _).alloc _
  have HB0 : Hid (Box w0 w.heap.size m l u) := by show Box _ _ _ _ _; rw [← hw0]; exact hp_new rfl
  unfold cells at hw0
  have HW := hid hw0
  clear hw0
  obtain ⟨p, c, k, t, i, x, y, li, n, raw, lane, ty⟩ := m
  obtain ⟨al, cl, rfl⟩ := h1.shape
  obtain ⟨au, cu, rfl⟩ := h3.shape
  have HL := hid h1
  have HU := hid h3
  clear h1 h3
  unfold pI
  simp only at *
  go_enter Try.func8, Try.ntmps8
  go_wp2_with fail
  rw [HW.out]
  refine (HF.out _).mono ?_
  rintro e wa ⟨rfl, hna⟩
  have hb := hp1 HB0.out hna
  have hnn := New.trans HN0.out hna
  obtain ⟨wb, hwb⟩ : ∃ wb, wa.alloc (.cells #[.int .i64 f1, .int .i64 f2] 66) = wb := ⟨_, rfl⟩
  have HB : Hid (Box wb w.heap.size ⟨p, c, k, t, i, x, y, li, n, raw, lane, ty⟩ (.slice al li.length cl) (.slice au (lb ty).length cu)) := by
    show _ = _
    rw [← hwb]; exact hp_old (Array.getElem?_eq_some_iff.1 hb).1 hb
  have HN : Hid (New w wb) := by show New _ _; rw [← hwb]; exact hnn.alloc _
  have HI : Hid (wb.heap[wa.heap.size]? = some (.cells #[.int .i64 f1, .int .i64 f2] 66)) := by show _ = _; rw [← hwb]; exact hp_new rfl
  have y0 : wb.cell? ⟨wa.heap.size, 0, none⟩ = some (.int .i64 f1) := cellAt HI.out 0 rfl
  have HNE : Hid (w.heap.size ≠ wa.heap.size) := by show _ ≠ _; have := (Array.getElem?_eq_some_iff.1 hb).1; omega
  clear hb hnn hna HB0 HN0 HF HW
  go_upto_block 0 with fail
  clear hwb y0
  go_cut [4] (fun ok wx => ∃ b l' u', ok = .bool b ∧ (b = true ↔ 0 ≤ s ∧ ownQ s ln ⟨p, c, k, t, i, x, y, li, n, raw, lane, ty⟩) ∧ Box wx w.heap.size (zap s ⟨p, c, k, t, i, x, y, li, n, raw, lane, ty⟩) l' u' ∧ New w wx ∧ RdM .u32 wx l' (zap s ⟨p, c, k, t, i, x, y, li, n, raw, lane, ty⟩).li ∧ Rd wx u' (lb (zap s ⟨p, c, k, t, i, x, y, li, n, raw, lane, ty⟩).ty))
  case first =>
    clear hQ2
    rcases hcases with ⟨rfl, hs, rfl, rfl⟩ | ⟨rfl, hs, rfl, rfl⟩
    · have hk := shapes s
      rcases hk with rfl | rfl | rfl | rfl | rfl | rfl | rfl | rfl | rfl | rfl | rfl | rfl | rfl | rfl | rfl | rfl | ⟨hz, ho⟩
      · -- 1
        have z2 : wb.cell? ⟨w.heap.size, 2, none⟩ = some (.int .i64 k) := cellAt HB.out 2 rfl
        have z3 : wb.cell? ⟨w.heap.size, 3, none⟩ = some (.int .u8 t) := cellAt HB.out 3 rfl
        have z4 : wb.cell? ⟨w.heap.size, 4, none⟩ = some (.int .u32 i) := cellAt HB.out 4 rfl
        have f2 : wb.frozen? ⟨w.heap.size, 2, none⟩ = false := frozenAt HB.out 2
        have f3 : wb.frozen? ⟨w.heap.size, 3, none⟩ = false := frozenAt HB.out 3
        have f4 : wb.frozen? ⟨w.heap.size, 4, none⟩ = false := frozenAt HB.out 4
        go_wp2_with fail
        refine (HBT.out _).mono ?_
        rintro e wd ⟨rfl, hnd⟩
        have HD := hid (New.trans HN.out hnd)
        have HB2 := hid (hp1 HB.out hnd)
        clear z2 z3 z4 f2 f3 f4
        have z2 : wd.cell? ⟨w.heap.size, 2, none⟩ = some (.int .i64 k) := cellAt HB2.out 2 rfl
        have z3 : wd.cell? ⟨w.heap.size, 3, none⟩ = some (.int .u8 t) := cellAt HB2.out 3 rfl
        have z4 : wd.cell? ⟨w.heap.size, 4, none⟩ = some (.int .u32 i) := cellAt HB2.out 4 rfl
        have f2 : wd.frozen? ⟨w.heap.size, 2, none⟩ = false := frozenAt HB2.out 2
        have f3 : wd.frozen? ⟨w.heap.size, 3, none⟩ = false := frozenAt HB2.out 3
        have f4 : wd.frozen? ⟨w.heap.size, 4, none⟩ = false := frozenAt HB2.out 4
        go_wp2_with fail
        go_meet
        have hn := (setNew (setNew (setNew HD.out 2 (.int .i64 0)) 3 (.int .u8 0)) 4 (.int .u32 0))
        exact ⟨_, (.slice al li.length cl), (.slice au (lb ty).length cu), rfl, (by simp [ownQ]), (hp_set (hp_set (hp_set HB2.out 2 (.int .i64 0)) 3 (.int .u8 0)) 4 (.int .u32 0)), hn, (HL.out.new hn), (HU.out.new hn)⟩
      · -- 2
        have z5 : wb.cell? ⟨w.heap.size, 5, none⟩ = some (.int .u32 x) := cellAt HB.out 5 rfl
        have f5 : wb.frozen? ⟨w.heap.size, 5, none⟩ = false := frozenAt HB.out 5
        go_wp2_with fail
        go_meet
        have hn := (setNew HN.out 5 (.int .u32 0))
        exact ⟨_, (.slice al li.length cl), (.slice au (lb ty).length cu), rfl, (by simp [ownQ]), (hp_set HB.out 5 (.int .u32 0)), hn, (HL.out.new hn), (HU.out.new hn)⟩
      · -- 3
        have z5 : wb.cell? ⟨w.heap.size, 5, none⟩ = some (.int .u32 x) := cellAt HB.out 5 rfl
        have z6 : wb.cell? ⟨w.heap.size, 6, none⟩ = some (.int .u32 y) := cellAt HB.out 6 rfl
        have f5 : wb.frozen? ⟨w.heap.size, 5, none⟩ = false := frozenAt HB.out 5
        have f6 : wb.frozen? ⟨w.heap.size, 6, none⟩ = false := frozenAt HB.out 6
        go_wp2_with fail
        go_meet
        have hn := (setNew (setNew HN.out 5 (.int .u32 0)) 6 (.int .u32 0))
        exact ⟨_, (.slice al li.length cl), (.slice au (lb ty).length cu), rfl, (by simp [ownQ]), (hp_set (hp_set HB.out 5 (.int .u32 0)) 6 (.int .u32 0)), hn, (HL.out.new hn), (HU.out.new hn)⟩
      · -- 4
        have z7 : wb.cell? ⟨w.heap.size, 7, none⟩ = some (.slice al li.length cl) := cellAt HB.out 7 rfl
        have z5 : wb.cell? ⟨w.heap.size, 5, none⟩ = some (.int .u32 x) := cellAt HB.out 5 rfl
        have f7 : wb.frozen? ⟨w.heap.size, 7, none⟩ = false := frozenAt HB.out 7
        have f5 : wb.frozen? ⟨w.heap.size, 5, none⟩ = false := frozenAt HB.out 5
        go_wp2_with fail
        go_meet
        have hn := (setNew (setNew HN.out 7 (.slice none 0 0)) 5 (.int .u32 0))
        exact ⟨_, (.slice none 0 0), (.slice au (lb ty).length cu), rfl, (by simp [ownQ]), (hp_set (hp_set HB.out 7 (.slice none 0 0)) 5 (.int .u32 0)), hn, (RdM.nil _ _), (HU.out.new hn)⟩
      · -- 5
        have z5 : wb.cell? ⟨w.heap.size, 5, none⟩ = some (.int .u32 x) := cellAt HB.out 5 rfl
        have z6 : wb.cell? ⟨w.heap.size, 6, none⟩ = some (.int .u32 y) := cellAt HB.out 6 rfl
        have f5 : wb.frozen? ⟨w.heap.size, 5, none⟩ = false := frozenAt HB.out 5
        have f6 : wb.frozen? ⟨w.heap.size, 6, none⟩ = false := frozenAt HB.out 6
        go_wp2_with fail
        go_meet
        have hn := (setNew (setNew HN.out 5 (.int .u32 0)) 6 (.int .u32 0))
        exact ⟨_, (.slice al li.length cl), (.slice au (lb ty).length cu), rfl, (by simp [ownQ]), (hp_set (hp_set HB.out 5 (.int .u32 0)) 6 (.int .u32 0)), hn, (HL.out.new hn), (HU.out.new hn)⟩
      · -- 8
        have z5 : wb.cell? ⟨w.heap.size, 5, none⟩ = some (.int .u32 x) := cellAt HB.out 5 rfl
        have f5 : wb.frozen? ⟨w.heap.size, 5, none⟩ = false := frozenAt HB.out 5
        go_wp2_with fail
        go_meet
        have hn := (setNew HN.out 5 (.int .u32 0))
        exact ⟨_, (.slice al li.length cl), (.slice au (lb ty).length cu), rfl, (by simp [ownQ]), (hp_set HB.out 5 (.int .u32 0)), hn, (HL.out.new hn), (HU.out.new hn)⟩
      · -- 9
        by_cases hw : -2147483648 ≤ n ∧ n ≤ 2147483647
        · have hwr : (n == wrap64 (RowKit.wrap32 n)) = true := beq_iff_eq.mpr ((wrap32 n).mpr hw)
          have HWR := hid hw
          clear hw
          have z8 : wb.cell? ⟨w.heap.size, 8, none⟩ = some (.int .i64 n) := cellAt HB.out 8 rfl
          have f8 : wb.frozen? ⟨w.heap.size, 8, none⟩ = false := frozenAt HB.out 8
          go_wp2_with fail
          go_meet
          have hn := (setNew HN.out 8 (.int .i64 0))
          exact ⟨_, (.slice al li.length cl), (.slice au (lb ty).length cu), rfl, (by have := HWR.out; simp only [ownQ]; simp [this]), (hp_set HB.out 8 (.int .i64 0)), hn, (HL.out.new hn), (HU.out.new hn)⟩
        · have hwr : (n == wrap64 (RowKit.wrap32 n)) = false := beq_eq_false_iff_ne.mpr (fun h => hw ((wrap32 n).mp h))
          have HWR := hid hw
          clear hw
          have z8 : wb.cell? ⟨w.heap.size, 8, none⟩ = some (.int .i64 n) := cellAt HB.out 8 rfl
          have f8 : wb.frozen? ⟨w.heap.size, 8, none⟩ = false := frozenAt HB.out 8
          go_wp2_with fail
          go_meet
          have hn := (setNew HN.out 8 (.int .i64 0))
          exact ⟨_, (.slice al li.length cl), (.slice au (lb ty).length cu), rfl, (by have := HWR.out; simp only [ownQ]; simp [this]), (hp_set HB.out 8 (.int .i64 0)), hn, (HL.out.new hn), (HU.out.new hn)⟩
      · -- 10
        have z8 : wb.cell? ⟨w.heap.size, 8, none⟩ = some (.int .i64 n) := cellAt HB.out 8 rfl
        have f8 : wb.frozen? ⟨w.heap.size, 8, none⟩ = false := frozenAt HB.out 8
        go_wp2_with fail
        go_meet
        have hn := (setNew HN.out 8 (.int .i64 0))
        exact ⟨_, (.slice al li.length cl), (.slice au (lb ty).length cu), rfl, (by simp [ownQ]), (hp_set HB.out 8 (.int .i64 0)), hn, (HL.out.new hn), (HU.out.new hn)⟩
      · -- 11
        have HS2 := hid (fun l w => HSP.out 11 l w)
        rw [spanV_11] at HS2
        have HH2 := hid (fun w => HHA.out 4 4 raw.size w)
        obtain ⟨bh, hbh⟩ : ∃ bh, Span.has 4 4 raw.size = bh := ⟨_, rfl⟩
        rw [hbh] at HH2
        have y0 : wb.cell? ⟨wa.heap.size, 0, none⟩ = some (.int .i64 11) := cellAt HI.out 0 rfl
        have y1 : wb.cell? ⟨wa.heap.size, 1, none⟩ = some (.int .i64 ln) := cellAt HI.out 1 rfl
        have z9 : wb.cell? ⟨w.heap.size, 9, none⟩ = some (.string raw) := cellAt HB.out 9 rfl
        have f9 : wb.frozen? ⟨w.heap.size, 9, none⟩ = false := frozenAt HB.out 9
        have HBH := hid hbh
        clear hbh
        cases bh with
        | true =>
          have hn : (fun w' => New w w' ∧ w'.heap[wa.heap.size]? = some (.cells #[.int .i64 11, .int .i64 ln] 66)) wb.drew := ⟨HN.out.drew, HI.out⟩
          have hbx : Box wb.drew w.heap.size ⟨p, c, k, t, i, x, y, li, n, raw, lane, ty⟩ (.slice al li.length cl) (.slice au (lb ty).length cu) := HB.out
          clear y0 y1 z9 f9
          go_wp2_with fail
          refine wp_region_noPanic ?_
          refine wp_region_held_drew (S := (fun w' => New w w' ∧ w'.heap[wa.heap.size]? = some (.cells #[.int .i64 11, .int .i64 ln] 66))) (by kernel_rfl) (by first | exact hn | exact (Upd.refl _ _).drew | exact Upd.drew (by assumption)) (fun hn => ?_)
          generalize wb.drew = wd at *
          refine wpAnyH_take (i := 0) (oi := { dst := some 57, op := Op.move (Operand.tmp 4), type := 4, pos := "instr.go:64", after := #[], guard := none }) (v := ?v40x1) rfl (by kernel_rfl) (by kernel_rfl) (by kernel_rfl) (fun _ _ _ h => h) (Or.inl ⟨by rfl, ?y40x1⟩) hn ?r40x1
          case y40x1 => (intro wS hS; (try go_simp); (try with_reducible rfl))
          try simp only [Act.put, List.setIfInBounds_toArray, List.set_cons_zero, List.set_cons_succ]
          refine wpAnyH_take (i := 1) (oi := { dst := some 58, op := Op.move (Operand.tmp 57), type := 4, pos := "instr.go:64", after := #[{ on := 0, ground := Ground.data }], guard := none }) (v := ?v40x2) rfl (by kernel_rfl) (by kernel_rfl) (by kernel_rfl) (fun _ _ _ h => h) (Or.inl ⟨by rfl, ?y40x2⟩) hn ?r40x2
          case y40x2 => (intro wS hS; (try go_simp); (try with_reducible rfl))
          try simp only [Act.put, List.setIfInBounds_toArray, List.set_cons_zero, List.set_cons_succ]
          refine wpAnyH_take (i := 2) (oi := { dst := some 59, op := Op.load 66 (Operand.tmp 3), type := 66, pos := "instr.go:64", after := #[{ on := 1, ground := Ground.guard }], guard := some (1, true) }) (v := ?v40x3) rfl (by kernel_rfl) (by kernel_rfl) (by kernel_rfl) (fun _ _ _ h => h) (Or.inl ⟨by rfl, ?y40x3⟩) hn ?r40x3
          case y40x3 => (intro wS hS; have c0 := cellAt hS.2 0 rfl; have c1 := cellAt hS.2 1 rfl; (try go_simp); (try with_reducible rfl))
          try simp only [Act.put, List.setIfInBounds_toArray, List.set_cons_zero, List.set_cons_succ]
          refine wpAnyH_take (i := 4) (oi := { dst := some 61, op := Op.fieldAddr 34 (Operand.tmp 1) 6, type := 0, pos := "instr.go:64", after := #[{ on := 1, ground := Ground.guard }], guard := some (1, true) }) (v := ?v40x4) rfl (by kernel_rfl) (by kernel_rfl) (by kernel_rfl) (fun _ _ _ h => h) (Or.inl ⟨by rfl, ?y40x4⟩) hn ?r40x4
          case y40x4 => (intro wS hS; (try go_simp); (try with_reducible rfl))
          try simp only [Act.put, List.setIfInBounds_toArray, List.set_cons_zero, List.set_cons_succ]
          refine wpAnyH_ready (rs := [3, 5]) (by kernel_rfl) (by simp) ?_
          refine AllReadyH.cons (o := { dst := some 60, op := Op.call { callee := Callee.value (Operand.func 31), args := #[Operand.tmp 59], argTypes := #[66] }, type := 70, pos := "instr.go:64", after := #[{ on := 2, ground := Ground.data }, { on := 1, ground := Ground.chain }, { on := 1, ground := Ground.guard }], guard := some (1, true) }) rfl (fun K hK => ?_) ?_
          · skip
            go_simp
            refine (HS2.out _ _).mono ?_
            rintro e wq ⟨rfl, hnq⟩
            go_wp2_with fail
            have hbx := hp1 hbx hnq
            have hn : (fun w' => New w w' ∧ w'.heap[wa.heap.size]? = some (.cells #[.int .i64 11, .int .i64 ln] 66)) wq := ⟨New.trans hn.1 hnq, hp1 hn.2 hnq⟩
            refine hK.out _ _ (by first | exact hn | exact Upd.alloc hn _) (fun hn => ?_)
            clear hK K
            try simp only [Act.put, List.setIfInBounds_toArray, List.set_cons_zero, List.set_cons_succ]
            refine wpAnyH_ready (rs := [5]) (by kernel_rfl) (by simp) ?_
            refine AllReadyH.cons (o := { dst := some 62, op := Op.load 9 (Operand.tmp 61), type := 9, pos := "instr.go:64", after := #[{ on := 4, ground := Ground.data }, { on := 1, ground := Ground.guard }], guard := some (1, true) }) rfl (fun K hK => ?_) AllReadyH.nil
            have z9 := cellAt hbx 9 (v := .string raw) rfl
            go_simp
            refine hK.out _ _ (by first | exact hn | exact Upd.alloc hn _) (fun hn => ?_)
            clear hK K
            try simp only [Act.put, List.setIfInBounds_toArray, List.set_cons_zero, List.set_cons_succ]
            refine wpAnyH_take (i := 6) (oi := { dst := some 63, op := Op.call { callee := Callee.builtin Builtin.len, args := #[Operand.tmp 62], argTypes := #[9] }, type := 3, pos := "instr.go:64", after := #[{ on := 5, ground := Ground.data }, { on := 1, ground := Ground.guard }], guard := some (1, true) }) (v := ?v40x5) rfl (by kernel_rfl) (by kernel_rfl) (by kernel_rfl) (fun _ _ _ h => h) (Or.inl ⟨by rfl, ?y40x5⟩) hn ?r40x5
            case y40x5 => (intro wS hS; (try go_simp); (try with_reducible rfl))
            try simp only [Act.put, List.setIfInBounds_toArray, List.set_cons_zero, List.set_cons_succ]
            refine wpAnyH_ready (rs := [7]) (by kernel_rfl) (by simp) ?_
            refine AllReadyH.cons (o := { dst := some 64, op := Op.call { callee := Callee.value (Operand.func 32), args := #[Operand.tmp 60, Operand.tmp 63], argTypes := #[70, 3] }, type := 4, pos := "instr.go:64", after := #[{ on := 3, ground := Ground.data }, { on := 6, ground := Ground.data }, { on := 3, ground := Ground.chain }, { on := 1, ground := Ground.guard }], guard := some (1, true) }) rfl (fun K hK => ?_) AllReadyH.nil
            go_simp
            refine (HH2.out _).mono ?_
            rintro e wr ⟨rfl, hnq⟩
            go_wp2_with fail
            have hbx := hp1 hbx hnq
            have hn : (fun w' => New w w' ∧ w'.heap[wa.heap.size]? = some (.cells #[.int .i64 11, .int .i64 ln] 66)) wr := ⟨New.trans hn.1 hnq, hp1 hn.2 hnq⟩
            refine hK.out _ _ (by first | exact hn | exact Upd.alloc hn _) (fun hn => ?_)
            clear hK K
            try simp only [Act.put, List.setIfInBounds_toArray, List.set_cons_zero, List.set_cons_succ]
            refine wpAnyH_take (i := 8) (oi := { dst := some 65, op := Op.pick (Operand.tmp 58) (Operand.tmp 64) (Operand.const (Value.bool false)), type := 4, pos := "instr.go:64", after := #[{ on := 1, ground := Ground.data }, { on := 7, ground := Ground.data }], guard := none }) (v := ?v40x6) rfl (by kernel_rfl) (by kernel_rfl) (by kernel_rfl) (fun _ _ _ h => h) (Or.inl ⟨by rfl, ?y40x6⟩) hn ?r40x6
            case y40x6 => (intro wS hS; (try go_simp); (try with_reducible rfl))
            try simp only [Act.put, List.setIfInBounds_toArray, List.set_cons_zero, List.set_cons_succ]
            refine wpAnyH_take (i := 9) (oi := { dst := some 66, op := Op.move (Operand.tmp 65), type := 4, pos := "instr.go:64", after := #[{ on := 8, ground := Ground.data }, { on := 7, ground := Ground.chain }], guard := none }) (v := ?v40x7) rfl (by kernel_rfl) (by kernel_rfl) (by kernel_rfl) (fun _ _ _ h => h) (Or.inl ⟨by rfl, ?y40x7⟩) hn ?r40x7
            case y40x7 => (intro wS hS; (try go_simp); (try with_reducible rfl))
            try simp only [Act.put, List.setIfInBounds_toArray, List.set_cons_zero, List.set_cons_succ]
            refine wpAnyH_take (i := 10) (oi := { dst := some 67, op := Op.fieldAddr 66 (Operand.tmp 3) 0, type := 0, pos := "instr.go:64", after := #[{ on := 9, ground := Ground.guard }], guard := some (9, true) }) (v := ?v40x8) rfl (by kernel_rfl) (by kernel_rfl) (by kernel_rfl) (fun _ _ _ h => h) (Or.inl ⟨by rfl, ?y40x8⟩) hn ?r40x8
            case y40x8 => (intro wS hS; (try go_simp); (try with_reducible rfl))
            try simp only [Act.put, List.setIfInBounds_toArray, List.set_cons_zero, List.set_cons_succ]
            refine wpAnyH_take (i := 11) (oi := { dst := some 68, op := Op.load 3 (Operand.tmp 67), type := 3, pos := "instr.go:64", after := #[{ on := 10, ground := Ground.data }, { on := 9, ground := Ground.guard }], guard := some (9, true) }) (v := ?v40x9) rfl (by kernel_rfl) (by kernel_rfl) (by kernel_rfl) (fun _ _ _ h => h) (Or.inl ⟨by rfl, ?y40x9⟩) hn ?r40x9
            case y40x9 => (intro wS hS; have c0 := cellAt hS.2 0 rfl; (try go_simp); (try with_reducible rfl))
            try simp only [Act.put, List.setIfInBounds_toArray, List.set_cons_zero, List.set_cons_succ]
            refine wpAnyH_take (i := 12) (oi := { dst := some 69, op := Op.binOp BinOp.neq 3 (Operand.tmp 68) (Operand.const (Value.int IntKind.i64 14)) 3, type := 4, pos := "instr.go:64", after := #[{ on := 11, ground := Ground.data }, { on := 9, ground := Ground.guard }], guard := some (9, true) }) (v := ?v40x10) rfl (by kernel_rfl) (by kernel_rfl) (by kernel_rfl) (fun _ _ _ h => h) (Or.inl ⟨by rfl, ?y40x10⟩) hn ?r40x10
            case y40x10 => (intro wS hS; (try go_simp); (try with_reducible rfl))
            try simp only [Act.put, List.setIfInBounds_toArray, List.set_cons_zero, List.set_cons_succ]
            refine wpAnyH_take (i := 13) (oi := { dst := some 70, op := Op.move (Operand.tmp 69), type := 4, pos := "instr.go:64", after := #[{ on := 12, ground := Ground.data }, { on := 9, ground := Ground.chain }, { on := 9, ground := Ground.guard }], guard := some (9, true) }) (v := ?v40x11) rfl (by kernel_rfl) (by kernel_rfl) (by kernel_rfl) (fun _ _ _ h => h) (Or.inl ⟨by rfl, ?y40x11⟩) hn ?r40x11
            case y40x11 => (intro wS hS; (try go_simp); (try with_reducible rfl))
            try simp only [Act.put, List.setIfInBounds_toArray, List.set_cons_zero, List.set_cons_succ]
            refine wpAnyH_take (i := 14) (oi := { dst := some 71, op := Op.fieldAddr 34 (Operand.tmp 1) 6, type := 0, pos := "instr.go:64", after := #[{ on := 13, ground := Ground.guard }], guard := some (13, false) }) (v := undef) rfl (by kernel_rfl) (by kernel_rfl) (by kernel_rfl) (fun _ _ _ h => h) (Or.inr ⟨by rfl, rfl⟩) hn ?_
            try simp only [Act.put, List.setIfInBounds_toArray, List.set_cons_zero, List.set_cons_succ]
            refine wpAnyH_take (i := 15) (oi := { dst := some 72, op := Op.load 9 (Operand.tmp 71), type := 9, pos := "instr.go:64", after := #[{ on := 14, ground := Ground.data }, { on := 13, ground := Ground.guard }], guard := some (13, false) }) (v := undef) rfl (by kernel_rfl) (by kernel_rfl) (by kernel_rfl) (fun _ _ _ h => h) (Or.inr ⟨by rfl, rfl⟩) hn ?_
            try simp only [Act.put, List.setIfInBounds_toArray, List.set_cons_zero, List.set_cons_succ]
            refine wpAnyH_take (i := 16) (oi := { dst := some 73, op := Op.call { callee := Callee.value (Operand.func 33), args := #[Operand.tmp 72], argTypes := #[9] }, type := 4, pos := "instr.go:64", after := #[{ on := 15, ground := Ground.data }, { on := 13, ground := Ground.chain }, { on := 13, ground := Ground.guard }], guard := some (13, false) }) (v := undef) rfl (by kernel_rfl) (by kernel_rfl) (by kernel_rfl) (fun _ _ _ h => h) (Or.inr ⟨by rfl, rfl⟩) hn ?_
            try simp only [Act.put, List.setIfInBounds_toArray, List.set_cons_zero, List.set_cons_succ]
            refine wpAnyH_take (i := 17) (oi := { dst := some 74, op := Op.pick (Operand.tmp 70) (Operand.const (Value.bool true)) (Operand.tmp 73), type := 4, pos := "instr.go:64", after := #[{ on := 13, ground := Ground.data }, { on := 16, ground := Ground.data }, { on := 9, ground := Ground.guard }], guard := some (9, true) }) (v := ?v40x15) rfl (by kernel_rfl) (by kernel_rfl) (by kernel_rfl) (fun _ _ _ h => h) (Or.inl ⟨by rfl, ?y40x15⟩) hn ?r40x15
            case y40x15 => (intro wS hS; (try go_simp); (try with_reducible rfl))
            try simp only [Act.put, List.setIfInBounds_toArray, List.set_cons_zero, List.set_cons_succ]
            refine wpAnyH_take (i := 18) (oi := { dst := some 75, op := Op.pick (Operand.tmp 66) (Operand.tmp 74) (Operand.const (Value.bool false)), type := 4, pos := "instr.go:64", after := #[{ on := 9, ground := Ground.data }, { on := 17, ground := Ground.data }], guard := none }) (v := ?v40x16) rfl (by kernel_rfl) (by kernel_rfl) (by kernel_rfl) (fun _ _ _ h => h) (Or.inl ⟨by rfl, ?y40x16⟩) hn ?r40x16
            case y40x16 => (intro wS hS; (try go_simp); (try with_reducible rfl))
            try simp only [Act.put, List.setIfInBounds_toArray, List.set_cons_zero, List.set_cons_succ]
            refine wpAnyH_take (i := 19) (oi := { dst := some 4, op := Op.assign (Operand.tmp 75), type := 4, pos := "instr.go:64", after := #[{ on := 18, ground := Ground.data }, { on := 16, ground := Ground.chain }, { on := 0, ground := Ground.phase }, { on := 1, ground := Ground.phase }, { on := 2, ground := Ground.phase }, { on := 3, ground := Ground.phase }, { on := 4, ground := Ground.phase }, { on := 5, ground := Ground.phase }, { on := 6, ground := Ground.phase }, { on := 7, ground := Ground.phase }, { on := 8, ground := Ground.phase }, { on := 9, ground := Ground.phase }, { on := 10, ground := Ground.phase }, { on := 11, ground := Ground.phase }, { on := 12, ground := Ground.phase }, { on := 13, ground := Ground.phase }, { on := 14, ground := Ground.phase }, { on := 15, ground := Ground.phase }, { on := 16, ground := Ground.phase }, { on := 17, ground := Ground.phase }, { on := 18, ground := Ground.phase }], guard := none }) (v := ?v40x17) rfl (by kernel_rfl) (by kernel_rfl) (by kernel_rfl) (fun _ _ _ h => h) (Or.inl ⟨by rfl, ?y40x17⟩) hn ?r40x17
            case y40x17 => (intro wS hS; (try go_simp); (try with_reducible rfl))
            try simp only [Act.put, List.setIfInBounds_toArray, List.set_cons_zero, List.set_cons_succ]
            refine wpAnyH_take (i := 20) (oi := { dst := some 76, op := Op.fieldAddr 34 (Operand.tmp 1) 6, type := 0, pos := "instr.go:64", after := #[{ on := 0, ground := Ground.phase }, { on := 1, ground := Ground.phase }, { on := 2, ground := Ground.phase }, { on := 3, ground := Ground.phase }, { on := 4, ground := Ground.phase }, { on := 5, ground := Ground.phase }, { on := 6, ground := Ground.phase }, { on := 7, ground := Ground.phase }, { on := 8, ground := Ground.phase }, { on := 9, ground := Ground.phase }, { on := 10, ground := Ground.phase }, { on := 11, ground := Ground.phase }, { on := 12, ground := Ground.phase }, { on := 13, ground := Ground.phase }, { on := 14, ground := Ground.phase }, { on := 15, ground := Ground.phase }, { on := 16, ground := Ground.phase }, { on := 17, ground := Ground.phase }, { on := 18, ground := Ground.phase }, { on := 19, ground := Ground.phase }], guard := none }) (v := ?v40x18) rfl (by kernel_rfl) (by kernel_rfl) (by kernel_rfl) (fun _ _ _ h => h) (Or.inl ⟨by rfl, ?y40x18⟩) hn ?r40x18
            case y40x18 => (intro wS hS; (try go_simp); (try with_reducible rfl))
            try simp only [Act.put, List.setIfInBounds_toArray, List.set_cons_zero, List.set_cons_succ]
            refine wpAnyH_ready (rs := [21]) (by kernel_rfl) (by simp) ?_
            refine AllReadyH.cons (o := { dst := none, op := Op.store 9 (Operand.tmp 76) (Operand.const (Value.string { data := #[] })), type := 0, pos := "instr.go:64", after := #[{ on := 20, ground := Ground.data }, { on := 19, ground := Ground.chain }, { on := 0, ground := Ground.phase }, { on := 1, ground := Ground.phase }, { on := 2, ground := Ground.phase }, { on := 3, ground := Ground.phase }, { on := 4, ground := Ground.phase }, { on := 5, ground := Ground.phase }, { on := 6, ground := Ground.phase }, { on := 7, ground := Ground.phase }, { on := 8, ground := Ground.phase }, { on := 9, ground := Ground.phase }, { on := 10, ground := Ground.phase }, { on := 11, ground := Ground.phase }, { on := 12, ground := Ground.phase }, { on := 13, ground := Ground.phase }, { on := 14, ground := Ground.phase }, { on := 15, ground := Ground.phase }, { on := 16, ground := Ground.phase }, { on := 17, ground := Ground.phase }, { on := 18, ground := Ground.phase }, { on := 19, ground := Ground.phase }], guard := none }) rfl (fun K hK => ?_) AllReadyH.nil
            have z9 := cellAt hbx 9 (v := .string raw) rfl
            have f9 := frozenAt hbx 9
            go_simp
            have hbx := hp_set hbx 9 (.string ⟨#[]⟩)
            have hn : (fun w' => New w w' ∧ w'.heap[wa.heap.size]? = some (.cells #[.int .i64 11, .int .i64 ln] 66)) (wr.setCell ⟨w.heap.size, 9, none⟩ (.string ⟨#[]⟩)) := ⟨setNew hn.1 9 _, hp_other hn.2 HNE.out⟩
            refine hK.out _ _ (by first | exact hn | exact Upd.alloc hn _) (fun hn => ?_)
            clear hK K
            try simp only [Act.put, List.setIfInBounds_toArray, List.set_cons_zero, List.set_cons_succ]
            refine wpAnyH_done (by kernel_rfl) ?_ _
            refine NoPanic.normal ?_
            go_wp2_with fail
            go_meet
            exact ⟨_, (.slice al li.length cl), (.slice au (lb ty).length cu), rfl, (by have h : raw.size = 4 := (by have := has_eq HBH.out; omega); simp [ownQ, h]), hbx, hn.1, HL.out.new hn.1, HU.out.new hn.1⟩
          refine AllReadyH.cons (o := { dst := some 62, op := Op.load 9 (Operand.tmp 61), type := 9, pos := "instr.go:64", after := #[{ on := 4, ground := Ground.data }, { on := 1, ground := Ground.guard }], guard := some (1, true) }) rfl (fun K hK => ?_) AllReadyH.nil
          have z9 := cellAt hbx 9 (v := .string raw) rfl
          go_simp
          refine hK.out _ _ (by first | exact hn | exact Upd.alloc hn _) (fun hn => ?_)
          clear hK K
          try simp only [Act.put, List.setIfInBounds_toArray, List.set_cons_zero, List.set_cons_succ]
          refine wpAnyH_take (i := 6) (oi := { dst := some 63, op := Op.call { callee := Callee.builtin Builtin.len, args := #[Operand.tmp 62], argTypes := #[9] }, type := 3, pos := "instr.go:64", after := #[{ on := 5, ground := Ground.data }, { on := 1, ground := Ground.guard }], guard := some (1, true) }) (v := ?v40x19) rfl (by kernel_rfl) (by kernel_rfl) (by kernel_rfl) (fun _ _ _ h => h) (Or.inl ⟨by rfl, ?y40x19⟩) hn ?r40x19
          case y40x19 => (intro wS hS; (try go_simp); (try with_reducible rfl))
          try simp only [Act.put, List.setIfInBounds_toArray, List.set_cons_zero, List.set_cons_succ]
          refine wpAnyH_ready (rs := [3]) (by kernel_rfl) (by simp) ?_
          refine AllReadyH.cons (o := { dst := some 60, op := Op.call { callee := Callee.value (Operand.func 31), args := #[Operand.tmp 59], argTypes := #[66] }, type := 70, pos := "instr.go:64", after := #[{ on := 2, ground := Ground.data }, { on := 1, ground := Ground.chain }, { on := 1, ground := Ground.guard }], guard := some (1, true) }) rfl (fun K hK => ?_) AllReadyH.nil
          go_simp
          refine (HS2.out _ _).mono ?_
          rintro e wq ⟨rfl, hnq⟩
          go_wp2_with fail
          have hbx := hp1 hbx hnq
          have hn : (fun w' => New w w' ∧ w'.heap[wa.heap.size]? = some (.cells #[.int .i64 11, .int .i64 ln] 66)) wq := ⟨New.trans hn.1 hnq, hp1 hn.2 hnq⟩
          refine hK.out _ _ (by first | exact hn | exact Upd.alloc hn _) (fun hn => ?_)
          clear hK K
          try simp only [Act.put, List.setIfInBounds_toArray, List.set_cons_zero, List.set_cons_succ]
          refine wpAnyH_ready (rs := [7]) (by kernel_rfl) (by simp) ?_
          refine AllReadyH.cons (o := { dst := some 64, op := Op.call { callee := Callee.value (Operand.func 32), args := #[Operand.tmp 60, Operand.tmp 63], argTypes := #[70, 3] }, type := 4, pos := "instr.go:64", after := #[{ on := 3, ground := Ground.data }, { on := 6, ground := Ground.data }, { on := 3, ground := Ground.chain }, { on := 1, ground := Ground.guard }], guard := some (1, true) }) rfl (fun K hK => ?_) AllReadyH.nil
          go_simp
          refine (HH2.out _).mono ?_
          rintro e wr ⟨rfl, hnq⟩
          go_wp2_with fail
          have hbx := hp1 hbx hnq
          have hn : (fun w' => New w w' ∧ w'.heap[wa.heap.size]? = some (.cells #[.int .i64 11, .int .i64 ln] 66)) wr := ⟨New.trans hn.1 hnq, hp1 hn.2 hnq⟩
          refine hK.out _ _ (by first | exact hn | exact Upd.alloc hn _) (fun hn => ?_)
          clear hK K
          try simp only [Act.put, List.setIfInBounds_toArray, List.set_cons_zero, List.set_cons_succ]
          refine wpAnyH_take (i := 8) (oi := { dst := some 65, op := Op.pick (Operand.tmp 58) (Operand.tmp 64) (Operand.const (Value.bool false)), type := 4, pos := "instr.go:64", after := #[{ on := 1, ground := Ground.data }, { on := 7, ground := Ground.data }], guard := none }) (v := ?v40x20) rfl (by kernel_rfl) (by kernel_rfl) (by kernel_rfl) (fun _ _ _ h => h) (Or.inl ⟨by rfl, ?y40x20⟩) hn ?r40x20
          case y40x20 => (intro wS hS; (try go_simp); (try with_reducible rfl))
          try simp only [Act.put, List.setIfInBounds_toArray, List.set_cons_zero, List.set_cons_succ]
          refine wpAnyH_take (i := 9) (oi := { dst := some 66, op := Op.move (Operand.tmp 65), type := 4, pos := "instr.go:64", after := #[{ on := 8, ground := Ground.data }, { on := 7, ground := Ground.chain }], guard := none }) (v := ?v40x21) rfl (by kernel_rfl) (by kernel_rfl) (by kernel_rfl) (fun _ _ _ h => h) (Or.inl ⟨by rfl, ?y40x21⟩) hn ?r40x21
          case y40x21 => (intro wS hS; (try go_simp); (try with_reducible rfl))
          try simp only [Act.put, List.setIfInBounds_toArray, List.set_cons_zero, List.set_cons_succ]
          refine wpAnyH_take (i := 10) (oi := { dst := some 67, op := Op.fieldAddr 66 (Operand.tmp 3) 0, type := 0, pos := "instr.go:64", after := #[{ on := 9, ground := Ground.guard }], guard := some (9, true) }) (v := ?v40x22) rfl (by kernel_rfl) (by kernel_rfl) (by kernel_rfl) (fun _ _ _ h => h) (Or.inl ⟨by rfl, ?y40x22⟩) hn ?r40x22
          case y40x22 => (intro wS hS; (try go_simp); (try with_reducible rfl))
          try simp only [Act.put, List.setIfInBounds_toArray, List.set_cons_zero, List.set_cons_succ]
          refine wpAnyH_take (i := 11) (oi := { dst := some 68, op := Op.load 3 (Operand.tmp 67), type := 3, pos := "instr.go:64", after := #[{ on := 10, ground := Ground.data }, { on := 9, ground := Ground.guard }], guard := some (9, true) }) (v := ?v40x23) rfl (by kernel_rfl) (by kernel_rfl) (by kernel_rfl) (fun _ _ _ h => h) (Or.inl ⟨by rfl, ?y40x23⟩) hn ?r40x23
          case y40x23 => (intro wS hS; have c0 := cellAt hS.2 0 rfl; (try go_simp); (try with_reducible rfl))
          try simp only [Act.put, List.setIfInBounds_toArray, List.set_cons_zero, List.set_cons_succ]
          refine wpAnyH_take (i := 12) (oi := { dst := some 69, op := Op.binOp BinOp.neq 3 (Operand.tmp 68) (Operand.const (Value.int IntKind.i64 14)) 3, type := 4, pos := "instr.go:64", after := #[{ on := 11, ground := Ground.data }, { on := 9, ground := Ground.guard }], guard := some (9, true) }) (v := ?v40x24) rfl (by kernel_rfl) (by kernel_rfl) (by kernel_rfl) (fun _ _ _ h => h) (Or.inl ⟨by rfl, ?y40x24⟩) hn ?r40x24
          case y40x24 => (intro wS hS; (try go_simp); (try with_reducible rfl))
          try simp only [Act.put, List.setIfInBounds_toArray, List.set_cons_zero, List.set_cons_succ]
          refine wpAnyH_take (i := 13) (oi := { dst := some 70, op := Op.move (Operand.tmp 69), type := 4, pos := "instr.go:64", after := #[{ on := 12, ground := Ground.data }, { on := 9, ground := Ground.chain }, { on := 9, ground := Ground.guard }], guard := some (9, true) }) (v := ?v40x25) rfl (by kernel_rfl) (by kernel_rfl) (by kernel_rfl) (fun _ _ _ h => h) (Or.inl ⟨by rfl, ?y40x25⟩) hn ?r40x25
          case y40x25 => (intro wS hS; (try go_simp); (try with_reducible rfl))
          try simp only [Act.put, List.setIfInBounds_toArray, List.set_cons_zero, List.set_cons_succ]
          refine wpAnyH_take (i := 14) (oi := { dst := some 71, op := Op.fieldAddr 34 (Operand.tmp 1) 6, type := 0, pos := "instr.go:64", after := #[{ on := 13, ground := Ground.guard }], guard := some (13, false) }) (v := undef) rfl (by kernel_rfl) (by kernel_rfl) (by kernel_rfl) (fun _ _ _ h => h) (Or.inr ⟨by rfl, rfl⟩) hn ?_
          try simp only [Act.put, List.setIfInBounds_toArray, List.set_cons_zero, List.set_cons_succ]
          refine wpAnyH_take (i := 15) (oi := { dst := some 72, op := Op.load 9 (Operand.tmp 71), type := 9, pos := "instr.go:64", after := #[{ on := 14, ground := Ground.data }, { on := 13, ground := Ground.guard }], guard := some (13, false) }) (v := undef) rfl (by kernel_rfl) (by kernel_rfl) (by kernel_rfl) (fun _ _ _ h => h) (Or.inr ⟨by rfl, rfl⟩) hn ?_
          try simp only [Act.put, List.setIfInBounds_toArray, List.set_cons_zero, List.set_cons_succ]
          refine wpAnyH_take (i := 16) (oi := { dst := some 73, op := Op.call { callee := Callee.value (Operand.func 33), args := #[Operand.tmp 72], argTypes := #[9] }, type := 4, pos := "instr.go:64", after := #[{ on := 15, ground := Ground.data }, { on := 13, ground := Ground.chain }, { on := 13, ground := Ground.guard }], guard := some (13, false) }) (v := undef) rfl (by kernel_rfl) (by kernel_rfl) (by kernel_rfl) (fun _ _ _ h => h) (Or.inr ⟨by rfl, rfl⟩) hn ?_
          try simp only [Act.put, List.setIfInBounds_toArray, List.set_cons_zero, List.set_cons_succ]
          refine wpAnyH_take (i := 17) (oi := { dst := some 74, op := Op.pick (Operand.tmp 70) (Operand.const (Value.bool true)) (Operand.tmp 73), type := 4, pos := "instr.go:64", after := #[{ on := 13, ground := Ground.data }, { on := 16, ground := Ground.data }, { on := 9, ground := Ground.guard }], guard := some (9, true) }) (v := ?v40x29) rfl (by kernel_rfl) (by kernel_rfl) (by kernel_rfl) (fun _ _ _ h => h) (Or.inl ⟨by rfl, ?y40x29⟩) hn ?r40x29
          case y40x29 => (intro wS hS; (try go_simp); (try with_reducible rfl))
          try simp only [Act.put, List.setIfInBounds_toArray, List.set_cons_zero, List.set_cons_succ]
          refine wpAnyH_take (i := 18) (oi := { dst := some 75, op := Op.pick (Operand.tmp 66) (Operand.tmp 74) (Operand.const (Value.bool false)), type := 4, pos := "instr.go:64", after := #[{ on := 9, ground := Ground.data }, { on := 17, ground := Ground.data }], guard := none }) (v := ?v40x30) rfl (by kernel_rfl) (by kernel_rfl) (by kernel_rfl) (fun _ _ _ h => h) (Or.inl ⟨by rfl, ?y40x30⟩) hn ?r40x30
          case y40x30 => (intro wS hS; (try go_simp); (try with_reducible rfl))
          try simp only [Act.put, List.setIfInBounds_toArray, List.set_cons_zero, List.set_cons_succ]
          refine wpAnyH_take (i := 19) (oi := { dst := some 4, op := Op.assign (Operand.tmp 75), type := 4, pos := "instr.go:64", after := #[{ on := 18, ground := Ground.data }, { on := 16, ground := Ground.chain }, { on := 0, ground := Ground.phase }, { on := 1, ground := Ground.phase }, { on := 2, ground := Ground.phase }, { on := 3, ground := Ground.phase }, { on := 4, ground := Ground.phase }, { on := 5, ground := Ground.phase }, { on := 6, ground := Ground.phase }, { on := 7, ground := Ground.phase }, { on := 8, ground := Ground.phase }, { on := 9, ground := Ground.phase }, { on := 10, ground := Ground.phase }, { on := 11, ground := Ground.phase }, { on := 12, ground := Ground.phase }, { on := 13, ground := Ground.phase }, { on := 14, ground := Ground.phase }, { on := 15, ground := Ground.phase }, { on := 16, ground := Ground.phase }, { on := 17, ground := Ground.phase }, { on := 18, ground := Ground.phase }], guard := none }) (v := ?v40x31) rfl (by kernel_rfl) (by kernel_rfl) (by kernel_rfl) (fun _ _ _ h => h) (Or.inl ⟨by rfl, ?y40x31⟩) hn ?r40x31
          case y40x31 => (intro wS hS; (try go_simp); (try with_reducible rfl))
          try simp only [Act.put, List.setIfInBounds_toArray, List.set_cons_zero, List.set_cons_succ]
          refine wpAnyH_take (i := 20) (oi := { dst := some 76, op := Op.fieldAddr 34 (Operand.tmp 1) 6, type := 0, pos := "instr.go:64", after := #[{ on := 0, ground := Ground.phase }, { on := 1, ground := Ground.phase }, { on := 2, ground := Ground.phase }, { on := 3, ground := Ground.phase }, { on := 4, ground := Ground.phase }, { on := 5, ground := Ground.phase }, { on := 6, ground := Ground.phase }, { on := 7, ground := Ground.phase }, { on := 8, ground := Ground.phase }, { on := 9, ground := Ground.phase }, { on := 10, ground := Ground.phase }, { on := 11, ground := Ground.phase }, { on := 12, ground := Ground.phase }, { on := 13, ground := Ground.phase }, { on := 14, ground := Ground.phase }, { on := 15, ground := Ground.phase }, { on := 16, ground := Ground.phase }, { on := 17, ground := Ground.phase }, { on := 18, ground := Ground.phase }, { on := 19, ground := Ground.phase }], guard := none }) (v := ?v40x32) rfl (by kernel_rfl) (by kernel_rfl) (by kernel_rfl) (fun _ _ _ h => h) (Or.inl ⟨by rfl, ?y40x32⟩) hn ?r40x32
          case y40x32 => (intro wS hS; (try go_simp); (try with_reducible rfl))
          try simp only [Act.put, List.setIfInBounds_toArray, List.set_cons_zero, List.set_cons_succ]
          refine wpAnyH_ready (rs := [21]) (by kernel_rfl) (by simp) ?_
          refine AllReadyH.cons (o := { dst := none, op := Op.store 9 (Operand.tmp 76) (Operand.const (Value.string { data := #[] })), type := 0, pos := "instr.go:64", after := #[{ on := 20, ground := Ground.data }, { on := 19, ground := Ground.chain }, { on := 0, ground := Ground.phase }, { on := 1, ground := Ground.phase }, { on := 2, ground := Ground.phase }, { on := 3, ground := Ground.phase }, { on := 4, ground := Ground.phase }, { on := 5, ground := Ground.phase }, { on := 6, ground := Ground.phase }, { on := 7, ground := Ground.phase }, { on := 8, ground := Ground.phase }, { on := 9, ground := Ground.phase }, { on := 10, ground := Ground.phase }, { on := 11, ground := Ground.phase }, { on := 12, ground := Ground.phase }, { on := 13, ground := Ground.phase }, { on := 14, ground := Ground.phase }, { on := 15, ground := Ground.phase }, { on := 16, ground := Ground.phase }, { on := 17, ground := Ground.phase }, { on := 18, ground := Ground.phase }, { on := 19, ground := Ground.phase }], guard := none }) rfl (fun K hK => ?_) AllReadyH.nil
          have z9 := cellAt hbx 9 (v := .string raw) rfl
          have f9 := frozenAt hbx 9
          go_simp
          have hbx := hp_set hbx 9 (.string ⟨#[]⟩)
          have hn : (fun w' => New w w' ∧ w'.heap[wa.heap.size]? = some (.cells #[.int .i64 11, .int .i64 ln] 66)) (wr.setCell ⟨w.heap.size, 9, none⟩ (.string ⟨#[]⟩)) := ⟨setNew hn.1 9 _, hp_other hn.2 HNE.out⟩
          refine hK.out _ _ (by first | exact hn | exact Upd.alloc hn _) (fun hn => ?_)
          clear hK K
          try simp only [Act.put, List.setIfInBounds_toArray, List.set_cons_zero, List.set_cons_succ]
          refine wpAnyH_done (by kernel_rfl) ?_ _
          refine NoPanic.normal ?_
          go_wp2_with fail
          go_meet
          exact ⟨_, (.slice al li.length cl), (.slice au (lb ty).length cu), rfl, (by have h : raw.size = 4 := (by have := has_eq HBH.out; omega); simp [ownQ, h]), hbx, hn.1, HL.out.new hn.1, HU.out.new hn.1⟩
        | false =>
          have hn : (fun w' => New w w' ∧ w'.heap[wa.heap.size]? = some (.cells #[.int .i64 11, .int .i64 ln] 66)) wb.drew := ⟨HN.out.drew, HI.out⟩
          have hbx : Box wb.drew w.heap.size ⟨p, c, k, t, i, x, y, li, n, raw, lane, ty⟩ (.slice al li.length cl) (.slice au (lb ty).length cu) := HB.out
          clear y0 y1 z9 f9
          go_wp2_with fail
          refine wp_region_noPanic ?_
          refine wp_region_held_drew (S := (fun w' => New w w' ∧ w'.heap[wa.heap.size]? = some (.cells #[.int .i64 11, .int .i64 ln] 66))) (by kernel_rfl) (by first | exact hn | exact (Upd.refl _ _).drew | exact Upd.drew (by assumption)) (fun hn => ?_)
          generalize wb.drew = wd at *
          refine wpAnyH_take (i := 0) (oi := { dst := some 57, op := Op.move (Operand.tmp 4), type := 4, pos := "instr.go:64", after := #[], guard := none }) (v := ?v41x1) rfl (by kernel_rfl) (by kernel_rfl) (by kernel_rfl) (fun _ _ _ h => h) (Or.inl ⟨by rfl, ?y41x1⟩) hn ?r41x1
          case y41x1 => (intro wS hS; (try go_simp); (try with_reducible rfl))
          try simp only [Act.put, List.setIfInBounds_toArray, List.set_cons_zero, List.set_cons_succ]
          refine wpAnyH_take (i := 1) (oi := { dst := some 58, op := Op.move (Operand.tmp 57), type := 4, pos := "instr.go:64", after := #[{ on := 0, ground := Ground.data }], guard := none }) (v := ?v41x2) rfl (by kernel_rfl) (by kernel_rfl) (by kernel_rfl) (fun _ _ _ h => h) (Or.inl ⟨by rfl, ?y41x2⟩) hn ?r41x2
          case y41x2 => (intro wS hS; (try go_simp); (try with_reducible rfl))
          try simp only [Act.put, List.setIfInBounds_toArray, List.set_cons_zero, List.set_cons_succ]
          refine wpAnyH_take (i := 2) (oi := { dst := some 59, op := Op.load 66 (Operand.tmp 3), type := 66, pos := "instr.go:64", after := #[{ on := 1, ground := Ground.guard }], guard := some (1, true) }) (v := ?v41x3) rfl (by kernel_rfl) (by kernel_rfl) (by kernel_rfl) (fun _ _ _ h => h) (Or.inl ⟨by rfl, ?y41x3⟩) hn ?r41x3
          case y41x3 => (intro wS hS; have c0 := cellAt hS.2 0 rfl; have c1 := cellAt hS.2 1 rfl; (try go_simp); (try with_reducible rfl))
          try simp only [Act.put, List.setIfInBounds_toArray, List.set_cons_zero, List.set_cons_succ]
          refine wpAnyH_take (i := 4) (oi := { dst := some 61, op := Op.fieldAddr 34 (Operand.tmp 1) 6, type := 0, pos := "instr.go:64", after := #[{ on := 1, ground := Ground.guard }], guard := some (1, true) }) (v := ?v41x4) rfl (by kernel_rfl) (by kernel_rfl) (by kernel_rfl) (fun _ _ _ h => h) (Or.inl ⟨by rfl, ?y41x4⟩) hn ?r41x4
          case y41x4 => (intro wS hS; (try go_simp); (try with_reducible rfl))
          try simp only [Act.put, List.setIfInBounds_toArray, List.set_cons_zero, List.set_cons_succ]
          refine wpAnyH_ready (rs := [3, 5]) (by kernel_rfl) (by simp) ?_
          refine AllReadyH.cons (o := { dst := some 60, op := Op.call { callee := Callee.value (Operand.func 31), args := #[Operand.tmp 59], argTypes := #[66] }, type := 70, pos := "instr.go:64", after := #[{ on := 2, ground := Ground.data }, { on := 1, ground := Ground.chain }, { on := 1, ground := Ground.guard }], guard := some (1, true) }) rfl (fun K hK => ?_) ?_
          · skip
            go_simp
            refine (HS2.out _ _).mono ?_
            rintro e wq ⟨rfl, hnq⟩
            go_wp2_with fail
            have hbx := hp1 hbx hnq
            have hn : (fun w' => New w w' ∧ w'.heap[wa.heap.size]? = some (.cells #[.int .i64 11, .int .i64 ln] 66)) wq := ⟨New.trans hn.1 hnq, hp1 hn.2 hnq⟩
            refine hK.out _ _ (by first | exact hn | exact Upd.alloc hn _) (fun hn => ?_)
            clear hK K
            try simp only [Act.put, List.setIfInBounds_toArray, List.set_cons_zero, List.set_cons_succ]
            refine wpAnyH_ready (rs := [5]) (by kernel_rfl) (by simp) ?_
            refine AllReadyH.cons (o := { dst := some 62, op := Op.load 9 (Operand.tmp 61), type := 9, pos := "instr.go:64", after := #[{ on := 4, ground := Ground.data }, { on := 1, ground := Ground.guard }], guard := some (1, true) }) rfl (fun K hK => ?_) AllReadyH.nil
            have z9 := cellAt hbx 9 (v := .string raw) rfl
            go_simp
            refine hK.out _ _ (by first | exact hn | exact Upd.alloc hn _) (fun hn => ?_)
            clear hK K
            try simp only [Act.put, List.setIfInBounds_toArray, List.set_cons_zero, List.set_cons_succ]
            refine wpAnyH_take (i := 6) (oi := { dst := some 63, op := Op.call { callee := Callee.builtin Builtin.len, args := #[Operand.tmp 62], argTypes := #[9] }, type := 3, pos := "instr.go:64", after := #[{ on := 5, ground := Ground.data }, { on := 1, ground := Ground.guard }], guard := some (1, true) }) (v := ?v41x5) rfl (by kernel_rfl) (by kernel_rfl) (by kernel_rfl) (fun _ _ _ h => h) (Or.inl ⟨by rfl, ?y41x5⟩) hn ?r41x5
            case y41x5 => (intro wS hS; (try go_simp); (try with_reducible rfl))
            try simp only [Act.put, List.setIfInBounds_toArray, List.set_cons_zero, List.set_cons_succ]
            refine wpAnyH_ready (rs := [7]) (by kernel_rfl) (by simp) ?_
            refine AllReadyH.cons (o := { dst := some 64, op := Op.call { callee := Callee.value (Operand.func 32), args := #[Operand.tmp 60, Operand.tmp 63], argTypes := #[70, 3] }, type := 4, pos := "instr.go:64", after := #[{ on := 3, ground := Ground.data }, { on := 6, ground := Ground.data }, { on := 3, ground := Ground.chain }, { on := 1, ground := Ground.guard }], guard := some (1, true) }) rfl (fun K hK => ?_) AllReadyH.nil
            go_simp
            refine (HH2.out _).mono ?_
            rintro e wr ⟨rfl, hnq⟩
            go_wp2_with fail
            have hbx := hp1 hbx hnq
            have hn : (fun w' => New w w' ∧ w'.heap[wa.heap.size]? = some (.cells #[.int .i64 11, .int .i64 ln] 66)) wr := ⟨New.trans hn.1 hnq, hp1 hn.2 hnq⟩
            refine hK.out _ _ (by first | exact hn | exact Upd.alloc hn _) (fun hn => ?_)
            clear hK K
            try simp only [Act.put, List.setIfInBounds_toArray, List.set_cons_zero, List.set_cons_succ]
            refine wpAnyH_take (i := 8) (oi := { dst := some 65, op := Op.pick (Operand.tmp 58) (Operand.tmp 64) (Operand.const (Value.bool false)), type := 4, pos := "instr.go:64", after := #[{ on := 1, ground := Ground.data }, { on := 7, ground := Ground.data }], guard := none }) (v := ?v41x6) rfl (by kernel_rfl) (by kernel_rfl) (by kernel_rfl) (fun _ _ _ h => h) (Or.inl ⟨by rfl, ?y41x6⟩) hn ?r41x6
            case y41x6 => (intro wS hS; (try go_simp); (try with_reducible rfl))
            try simp only [Act.put, List.setIfInBounds_toArray, List.set_cons_zero, List.set_cons_succ]
            refine wpAnyH_take (i := 9) (oi := { dst := some 66, op := Op.move (Operand.tmp 65), type := 4, pos := "instr.go:64", after := #[{ on := 8, ground := Ground.data }, { on := 7, ground := Ground.chain }], guard := none }) (v := ?v41x7) rfl (by kernel_rfl) (by kernel_rfl) (by kernel_rfl) (fun _ _ _ h => h) (Or.inl ⟨by rfl, ?y41x7⟩) hn ?r41x7
            case y41x7 => (intro wS hS; (try go_simp); (try with_reducible rfl))
            try simp only [Act.put, List.setIfInBounds_toArray, List.set_cons_zero, List.set_cons_succ]
            refine wpAnyH_take (i := 10) (oi := { dst := some 67, op := Op.fieldAddr 66 (Operand.tmp 3) 0, type := 0, pos := "instr.go:64", after := #[{ on := 9, ground := Ground.guard }], guard := some (9, true) }) (v := undef) rfl (by kernel_rfl) (by kernel_rfl) (by kernel_rfl) (fun _ _ _ h => h) (Or.inr ⟨by rfl, rfl⟩) hn ?_
            try simp only [Act.put, List.setIfInBounds_toArray, List.set_cons_zero, List.set_cons_succ]
            refine wpAnyH_take (i := 11) (oi := { dst := some 68, op := Op.load 3 (Operand.tmp 67), type := 3, pos := "instr.go:64", after := #[{ on := 10, ground := Ground.data }, { on := 9, ground := Ground.guard }], guard := some (9, true) }) (v := undef) rfl (by kernel_rfl) (by kernel_rfl) (by kernel_rfl) (fun _ _ _ h => h) (Or.inr ⟨by rfl, rfl⟩) hn ?_
            try simp only [Act.put, List.setIfInBounds_toArray, List.set_cons_zero, List.set_cons_succ]
            refine wpAnyH_take (i := 12) (oi := { dst := some 69, op := Op.binOp BinOp.neq 3 (Operand.tmp 68) (Operand.const (Value.int IntKind.i64 14)) 3, type := 4, pos := "instr.go:64", after := #[{ on := 11, ground := Ground.data }, { on := 9, ground := Ground.guard }], guard := some (9, true) }) (v := undef) rfl (by kernel_rfl) (by kernel_rfl) (by kernel_rfl) (fun _ _ _ h => h) (Or.inr ⟨by rfl, rfl⟩) hn ?_
            try simp only [Act.put, List.setIfInBounds_toArray, List.set_cons_zero, List.set_cons_succ]
            refine wpAnyH_take (i := 13) (oi := { dst := some 70, op := Op.move (Operand.tmp 69), type := 4, pos := "instr.go:64", after := #[{ on := 12, ground := Ground.data }, { on := 9, ground := Ground.chain }, { on := 9, ground := Ground.guard }], guard := some (9, true) }) (v := undef) rfl (by kernel_rfl) (by kernel_rfl) (by kernel_rfl) (fun _ _ _ h => h) (Or.inr ⟨by rfl, rfl⟩) hn ?_
            try simp only [Act.put, List.setIfInBounds_toArray, List.set_cons_zero, List.set_cons_succ]
            refine wpAnyH_take (i := 14) (oi := { dst := some 71, op := Op.fieldAddr 34 (Operand.tmp 1) 6, type := 0, pos := "instr.go:64", after := #[{ on := 13, ground := Ground.guard }], guard := some (13, false) }) (v := undef) rfl (by kernel_rfl) (by kernel_rfl) (by kernel_rfl) (fun _ _ _ h => h) (Or.inr ⟨by rfl, rfl⟩) hn ?_
            try simp only [Act.put, List.setIfInBounds_toArray, List.set_cons_zero, List.set_cons_succ]
            refine wpAnyH_take (i := 15) (oi := { dst := some 72, op := Op.load 9 (Operand.tmp 71), type := 9, pos := "instr.go:64", after := #[{ on := 14, ground := Ground.data }, { on := 13, ground := Ground.guard }], guard := some (13, false) }) (v := undef) rfl (by kernel_rfl) (by kernel_rfl) (by kernel_rfl) (fun _ _ _ h => h) (Or.inr ⟨by rfl, rfl⟩) hn ?_
            try simp only [Act.put, List.setIfInBounds_toArray, List.set_cons_zero, List.set_cons_succ]
            refine wpAnyH_take (i := 16) (oi := { dst := some 73, op := Op.call { callee := Callee.value (Operand.func 33), args := #[Operand.tmp 72], argTypes := #[9] }, type := 4, pos := "instr.go:64", after := #[{ on := 15, ground := Ground.data }, { on := 13, ground := Ground.chain }, { on := 13, ground := Ground.guard }], guard := some (13, false) }) (v := undef) rfl (by kernel_rfl) (by kernel_rfl) (by kernel_rfl) (fun _ _ _ h => h) (Or.inr ⟨by rfl, rfl⟩) hn ?_
            try simp only [Act.put, List.setIfInBounds_toArray, List.set_cons_zero, List.set_cons_succ]
            refine wpAnyH_take (i := 17) (oi := { dst := some 74, op := Op.pick (Operand.tmp 70) (Operand.const (Value.bool true)) (Operand.tmp 73), type := 4, pos := "instr.go:64", after := #[{ on := 13, ground := Ground.data }, { on := 16, ground := Ground.data }, { on := 9, ground := Ground.guard }], guard := some (9, true) }) (v := undef) rfl (by kernel_rfl) (by kernel_rfl) (by kernel_rfl) (fun _ _ _ h => h) (Or.inr ⟨by rfl, rfl⟩) hn ?_
            try simp only [Act.put, List.setIfInBounds_toArray, List.set_cons_zero, List.set_cons_succ]
            refine wpAnyH_take (i := 18) (oi := { dst := some 75, op := Op.pick (Operand.tmp 66) (Operand.tmp 74) (Operand.const (Value.bool false)), type := 4, pos := "instr.go:64", after := #[{ on := 9, ground := Ground.data }, { on := 17, ground := Ground.data }], guard := none }) (v := ?v41x16) rfl (by kernel_rfl) (by kernel_rfl) (by kernel_rfl) (fun _ _ _ h => h) (Or.inl ⟨by rfl, ?y41x16⟩) hn ?r41x16
            case y41x16 => (intro wS hS; (try go_simp); (try with_reducible rfl))
            try simp only [Act.put, List.setIfInBounds_toArray, List.set_cons_zero, List.set_cons_succ]
            refine wpAnyH_take (i := 19) (oi := { dst := some 4, op := Op.assign (Operand.tmp 75), type := 4, pos := "instr.go:64", after := #[{ on := 18, ground := Ground.data }, { on := 16, ground := Ground.chain }, { on := 0, ground := Ground.phase }, { on := 1, ground := Ground.phase }, { on := 2, ground := Ground.phase }, { on := 3, ground := Ground.phase }, { on := 4, ground := Ground.phase }, { on := 5, ground := Ground.phase }, { on := 6, ground := Ground.phase }, { on := 7, ground := Ground.phase }, { on := 8, ground := Ground.phase }, { on := 9, ground := Ground.phase }, { on := 10, ground := Ground.phase }, { on := 11, ground := Ground.phase }, { on := 12, ground := Ground.phase }, { on := 13, ground := Ground.phase }, { on := 14, ground := Ground.phase }, { on := 15, ground := Ground.phase }, { on := 16, ground := Ground.phase }, { on := 17, ground := Ground.phase }, { on := 18, ground := Ground.phase }], guard := none }) (v := ?v41x17) rfl (by kernel_rfl) (by kernel_rfl) (by kernel_rfl) (fun _ _ _ h => h) (Or.inl ⟨by rfl, ?y41x17⟩) hn ?r41x17
            case y41x17 => (intro wS hS; (try go_simp); (try with_reducible rfl))
            try simp only [Act.put, List.setIfInBounds_toArray, List.set_cons_zero, List.set_cons_succ]
            refine wpAnyH_take (i := 20) (oi := { dst := some 76, op := Op.fieldAddr 34 (Operand.tmp 1) 6, type := 0, pos := "instr.go:64", after := #[{ on := 0, ground := Ground.phase }, { on := 1, ground := Ground.phase }, { on := 2, ground := Ground.phase }, { on := 3, ground := Ground.phase }, { on := 4, ground := Ground.phase }, { on := 5, ground := Ground.phase }, { on := 6, ground := Ground.phase }, { on := 7, ground := Ground.phase }, { on := 8, ground := Ground.phase }, { on := 9, ground := Ground.phase }, { on := 10, ground := Ground.phase }, { on := 11, ground := Ground.phase }, { on := 12, ground := Ground.phase }, { on := 13, ground := Ground.phase }, { on := 14, ground := Ground.phase }, { on := 15, ground := Ground.phase }, { on := 16, ground := Ground.phase }, { on := 17, ground := Ground.phase }, { on := 18, ground := Ground.phase }, { on := 19, ground := Ground.phase }], guard := none }) (v := ?v41x18) rfl (by kernel_rfl) (by kernel_rfl) (by kernel_rfl) (fun _ _ _ h => h) (Or.inl ⟨by rfl, ?y41x18⟩) hn ?r41x18
            case y41x18 => (intro wS hS; (try go_simp); (try with_reducible rfl))
            try simp only [Act.put, List.setIfInBounds_toArray, List.set_cons_zero, List.set_cons_succ]
            refine wpAnyH_ready (rs := [21]) (by kernel_rfl) (by simp) ?_
            refine AllReadyH.cons (o := { dst := none, op := Op.store 9 (Operand.tmp 76) (Operand.const (Value.string { data := #[] })), type := 0, pos := "instr.go:64", after := #[{ on := 20, ground := Ground.data }, { on := 19, ground := Ground.chain }, { on := 0, ground := Ground.phase }, { on := 1, ground := Ground.phase }, { on := 2, ground := Ground.phase }, { on := 3, ground := Ground.phase }, { on := 4, ground := Ground.phase }, { on := 5, ground := Ground.phase }, { on := 6, ground := Ground.phase }, { on := 7, ground := Ground.phase }, { on := 8, ground := Ground.phase }, { on := 9, ground := Ground.phase }, { on := 10, ground := Ground.phase }, { on := 11, ground := Ground.phase }, { on := 12, ground := Ground.phase }, { on := 13, ground := Ground.phase }, { on := 14, ground := Ground.phase }, { on := 15, ground := Ground.phase }, { on := 16, ground := Ground.phase }, { on := 17, ground := Ground.phase }, { on := 18, ground := Ground.phase }, { on := 19, ground := Ground.phase }], guard := none }) rfl (fun K hK => ?_) AllReadyH.nil
            have z9 := cellAt hbx 9 (v := .string raw) rfl
            have f9 := frozenAt hbx 9
            go_simp
            have hbx := hp_set hbx 9 (.string ⟨#[]⟩)
            have hn : (fun w' => New w w' ∧ w'.heap[wa.heap.size]? = some (.cells #[.int .i64 11, .int .i64 ln] 66)) (wr.setCell ⟨w.heap.size, 9, none⟩ (.string ⟨#[]⟩)) := ⟨setNew hn.1 9 _, hp_other hn.2 HNE.out⟩
            refine hK.out _ _ (by first | exact hn | exact Upd.alloc hn _) (fun hn => ?_)
            clear hK K
            try simp only [Act.put, List.setIfInBounds_toArray, List.set_cons_zero, List.set_cons_succ]
            refine wpAnyH_done (by kernel_rfl) ?_ _
            refine NoPanic.normal ?_
            go_wp2_with fail
            go_meet
            exact ⟨_, (.slice al li.length cl), (.slice au (lb ty).length cu), rfl, (by have h := has_ne HBH.out; simp [ownQ, h]), hbx, hn.1, HL.out.new hn.1, HU.out.new hn.1⟩
          refine AllReadyH.cons (o := { dst := some 62, op := Op.load 9 (Operand.tmp 61), type := 9, pos := "instr.go:64", after := #[{ on := 4, ground := Ground.data }, { on := 1, ground := Ground.guard }], guard := some (1, true) }) rfl (fun K hK => ?_) AllReadyH.nil
          have z9 := cellAt hbx 9 (v := .string raw) rfl
          go_simp
          refine hK.out _ _ (by first | exact hn | exact Upd.alloc hn _) (fun hn => ?_)
          clear hK K
          try simp only [Act.put, List.setIfInBounds_toArray, List.set_cons_zero, List.set_cons_succ]
          refine wpAnyH_take (i := 6) (oi := { dst := some 63, op := Op.call { callee := Callee.builtin Builtin.len, args := #[Operand.tmp 62], argTypes := #[9] }, type := 3, pos := "instr.go:64", after := #[{ on := 5, ground := Ground.data }, { on := 1, ground := Ground.guard }], guard := some (1, true) }) (v := ?v41x19) rfl (by kernel_rfl) (by kernel_rfl) (by kernel_rfl) (fun _ _ _ h => h) (Or.inl ⟨by rfl, ?y41x19⟩) hn ?r41x19
          case y41x19 => (intro wS hS; (try go_simp); (try with_reducible rfl))
          try simp only [Act.put, List.setIfInBounds_toArray, List.set_cons_zero, List.set_cons_succ]
          refine wpAnyH_ready (rs := [3]) (by kernel_rfl) (by simp) ?_
          refine AllReadyH.cons (o := { dst := some 60, op := Op.call { callee := Callee.value (Operand.func 31), args := #[Operand.tmp 59], argTypes := #[66] }, type := 70, pos := "instr.go:64", after := #[{ on := 2, ground := Ground.data }, { on := 1, ground := Ground.chain }, { on := 1, ground := Ground.guard }], guard := some (1, true) }) rfl (fun K hK => ?_) AllReadyH.nil
          go_simp
          refine (HS2.out _ _).mono ?_
          rintro e wq ⟨rfl, hnq⟩
          go_wp2_with fail
          have hbx := hp1 hbx hnq
          have hn : (fun w' => New w w' ∧ w'.heap[wa.heap.size]? = some (.cells #[.int .i64 11, .int .i64 ln] 66)) wq := ⟨New.trans hn.1 hnq, hp1 hn.2 hnq⟩
          refine hK.out _ _ (by first | exact hn | exact Upd.alloc hn _) (fun hn => ?_)
          clear hK K
          try simp only [Act.put, List.setIfInBounds_toArray, List.set_cons_zero, List.set_cons_succ]
          refine wpAnyH_ready (rs := [7]) (by kernel_rfl) (by simp) ?_
          refine AllReadyH.cons (o := { dst := some 64, op := Op.call { callee := Callee.value (Operand.func 32), args := #[Operand.tmp 60, Operand.tmp 63], argTypes := #[70, 3] }, type := 4, pos := "instr.go:64", after := #[{ on := 3, ground := Ground.data }, { on := 6, ground := Ground.data }, { on := 3, ground := Ground.chain }, { on := 1, ground := Ground.guard }], guard := some (1, true) }) rfl (fun K hK => ?_) AllReadyH.nil
          go_simp
          refine (HH2.out _).mono ?_
          rintro e wr ⟨rfl, hnq⟩
          go_wp2_with fail
          have hbx := hp1 hbx hnq
          have hn : (fun w' => New w w' ∧ w'.heap[wa.heap.size]? = some (.cells #[.int .i64 11, .int .i64 ln] 66)) wr := ⟨New.trans hn.1 hnq, hp1 hn.2 hnq⟩
          refine hK.out _ _ (by first | exact hn | exact Upd.alloc hn _) (fun hn => ?_)
          clear hK K
          try simp only [Act.put, List.setIfInBounds_toArray, List.set_cons_zero, List.set_cons_succ]
          refine wpAnyH_take (i := 8) (oi := { dst := some 65, op := Op.pick (Operand.tmp 58) (Operand.tmp 64) (Operand.const (Value.bool false)), type := 4, pos := "instr.go:64", after := #[{ on := 1, ground := Ground.data }, { on := 7, ground := Ground.data }], guard := none }) (v := ?v41x20) rfl (by kernel_rfl) (by kernel_rfl) (by kernel_rfl) (fun _ _ _ h => h) (Or.inl ⟨by rfl, ?y41x20⟩) hn ?r41x20
          case y41x20 => (intro wS hS; (try go_simp); (try with_reducible rfl))
          try simp only [Act.put, List.setIfInBounds_toArray, List.set_cons_zero, List.set_cons_succ]
          refine wpAnyH_take (i := 9) (oi := { dst := some 66, op := Op.move (Operand.tmp 65), type := 4, pos := "instr.go:64", after := #[{ on := 8, ground := Ground.data }, { on := 7, ground := Ground.chain }], guard := none }) (v := ?v41x21) rfl (by kernel_rfl) (by kernel_rfl) (by kernel_rfl) (fun _ _ _ h => h) (Or.inl ⟨by rfl, ?y41x21⟩) hn ?r41x21
          case y41x21 => (intro wS hS; (try go_simp); (try with_reducible rfl))
          try simp only [Act.put, List.setIfInBounds_toArray, List.set_cons_zero, List.set_cons_succ]
          refine wpAnyH_take (i := 10) (oi := { dst := some 67, op := Op.fieldAddr 66 (Operand.tmp 3) 0, type := 0, pos := "instr.go:64", after := #[{ on := 9, ground := Ground.guard }], guard := some (9, true) }) (v := undef) rfl (by kernel_rfl) (by kernel_rfl) (by kernel_rfl) (fun _ _ _ h => h) (Or.inr ⟨by rfl, rfl⟩) hn ?_
          try simp only [Act.put, List.setIfInBounds_toArray, List.set_cons_zero, List.set_cons_succ]
          refine wpAnyH_take (i := 11) (oi := { dst := some 68, op := Op.load 3 (Operand.tmp 67), type := 3, pos := "instr.go:64", after := #[{ on := 10, ground := Ground.data }, { on := 9, ground := Ground.guard }], guard := some (9, true) }) (v := undef) rfl (by kernel_rfl) (by kernel_rfl) (by kernel_rfl) (fun _ _ _ h => h) (Or.inr ⟨by rfl, rfl⟩) hn ?_
          try simp only [Act.put, List.setIfInBounds_toArray, List.set_cons_zero, List.set_cons_succ]
          refine wpAnyH_take (i := 12) (oi := { dst := some 69, op := Op.binOp BinOp.neq 3 (Operand.tmp 68) (Operand.const (Value.int IntKind.i64 14)) 3, type := 4, pos := "instr.go:64", after := #[{ on := 11, ground := Ground.data }, { on := 9, ground := Ground.guard }], guard := some (9, true) }) (v := undef) rfl (by kernel_rfl) (by kernel_rfl) (by kernel_rfl) (fun _ _ _ h => h) (Or.inr ⟨by rfl, rfl⟩) hn ?_
          try simp only [Act.put, List.setIfInBounds_toArray, List.set_cons_zero, List.set_cons_succ]
          refine wpAnyH_take (i := 13) (oi := { dst := some 70, op := Op.move (Operand.tmp 69), type := 4, pos := "instr.go:64", after := #[{ on := 12, ground := Ground.data }, { on := 9, ground := Ground.chain }, { on := 9, ground := Ground.guard }], guard := some (9, true) }) (v := undef) rfl (by kernel_rfl) (by kernel_rfl) (by kernel_rfl) (fun _ _ _ h => h) (Or.inr ⟨by rfl, rfl⟩) hn ?_
          try simp only [Act.put, List.setIfInBounds_toArray, List.set_cons_zero, List.set_cons_succ]
          refine wpAnyH_take (i := 14) (oi := { dst := some 71, op := Op.fieldAddr 34 (Operand.tmp 1) 6, type := 0, pos := "instr.go:64", after := #[{ on := 13, ground := Ground.guard }], guard := some (13, false) }) (v := undef) rfl (by kernel_rfl) (by kernel_rfl) (by kernel_rfl) (fun _ _ _ h => h) (Or.inr ⟨by rfl, rfl⟩) hn ?_
          try simp only [Act.put, List.setIfInBounds_toArray, List.set_cons_zero, List.set_cons_succ]
          refine wpAnyH_take (i := 15) (oi := { dst := some 72, op := Op.load 9 (Operand.tmp 71), type := 9, pos := "instr.go:64", after := #[{ on := 14, ground := Ground.data }, { on := 13, ground := Ground.guard }], guard := some (13, false) }) (v := undef) rfl (by kernel_rfl) (by kernel_rfl) (by kernel_rfl) (fun _ _ _ h => h) (Or.inr ⟨by rfl, rfl⟩) hn ?_
          try simp only [Act.put, List.setIfInBounds_toArray, List.set_cons_zero, List.set_cons_succ]
          refine wpAnyH_take (i := 16) (oi := { dst := some 73, op := Op.call { callee := Callee.value (Operand.func 33), args := #[Operand.tmp 72], argTypes := #[9] }, type := 4, pos := "instr.go:64", after := #[{ on := 15, ground := Ground.data }, { on := 13, ground := Ground.chain }, { on := 13, ground := Ground.guard }], guard := some (13, false) }) (v := undef) rfl (by kernel_rfl) (by kernel_rfl) (by kernel_rfl) (fun _ _ _ h => h) (Or.inr ⟨by rfl, rfl⟩) hn ?_
          try simp only [Act.put, List.setIfInBounds_toArray, List.set_cons_zero, List.set_cons_succ]
          refine wpAnyH_take (i := 17) (oi := { dst := some 74, op := Op.pick (Operand.tmp 70) (Operand.const (Value.bool true)) (Operand.tmp 73), type := 4, pos := "instr.go:64", after := #[{ on := 13, ground := Ground.data }, { on := 16, ground := Ground.data }, { on := 9, ground := Ground.guard }], guard := some (9, true) }) (v := undef) rfl (by kernel_rfl) (by kernel_rfl) (by kernel_rfl) (fun _ _ _ h => h) (Or.inr ⟨by rfl, rfl⟩) hn ?_
          try simp only [Act.put, List.setIfInBounds_toArray, List.set_cons_zero, List.set_cons_succ]
          refine wpAnyH_take (i := 18) (oi := { dst := some 75, op := Op.pick (Operand.tmp 66) (Operand.tmp 74) (Operand.const (Value.bool false)), type := 4, pos := "instr.go:64", after := #[{ on := 9, ground := Ground.data }, { on := 17, ground := Ground.data }], guard := none }) (v := ?v41x30) rfl (by kernel_rfl) (by kernel_rfl) (by kernel_rfl) (fun _ _ _ h => h) (Or.inl ⟨by rfl, ?y41x30⟩) hn ?r41x30
          case y41x30 => (intro wS hS; (try go_simp); (try with_reducible rfl))
          try simp only [Act.put, List.setIfInBounds_toArray, List.set_cons_zero, List.set_cons_succ]
          refine wpAnyH_take (i := 19) (oi := { dst := some 4, op := Op.assign (Operand.tmp 75), type := 4, pos := "instr.go:64", after := #[{ on := 18, ground := Ground.data }, { on := 16, ground := Ground.chain }, { on := 0, ground := Ground.phase }, { on := 1, ground := Ground.phase }, { on := 2, ground := Ground.phase }, { on := 3, ground := Ground.phase }, { on := 4, ground := Ground.phase }, { on := 5, ground := Ground.phase }, { on := 6, ground := Ground.phase }, { on := 7, ground := Ground.phase }, { on := 8, ground := Ground.phase }, { on := 9, ground := Ground.phase }, { on := 10, ground := Ground.phase }, { on := 11, ground := Ground.phase }, { on := 12, ground := Ground.phase }, { on := 13, ground := Ground.phase }, { on := 14, ground := Ground.phase }, { on := 15, ground := Ground.phase }, { on := 16, ground := Ground.phase }, { on := 17, ground := Ground.phase }, { on := 18, ground := Ground.phase }], guard := none }) (v := ?v41x31) rfl (by kernel_rfl) (by kernel_rfl) (by kernel_rfl) (fun _ _ _ h => h) (Or.inl ⟨by rfl, ?y41x31⟩) hn ?r41x31
          case y41x31 => (intro wS hS; (try go_simp); (try with_reducible rfl))
          try simp only [Act.put, List.setIfInBounds_toArray, List.set_cons_zero, List.set_cons_succ]
          refine wpAnyH_take (i := 20) (oi := { dst := some 76, op := Op.fieldAddr 34 (Operand.tmp 1) 6, type := 0, pos := "instr.go:64", after := #[{ on := 0, ground := Ground.phase }, { on := 1, ground := Ground.phase }, { on := 2, ground := Ground.phase }, { on := 3, ground := Ground.phase }, { on := 4, ground := Ground.phase }, { on := 5, ground := Ground.phase }, { on := 6, ground := Ground.phase }, { on := 7, ground := Ground.phase }, { on := 8, ground := Ground.phase }, { on := 9, ground := Ground.phase }, { on := 10, ground := Ground.phase }, { on := 11, ground := Ground.phase }, { on := 12, ground := Ground.phase }, { on := 13, ground := Ground.phase }, { on := 14, ground := Ground.phase }, { on := 15, ground := Ground.phase }, { on := 16, ground := Ground.phase }, { on := 17, ground := Ground.phase }, { on := 18, ground := Ground.phase }, { on := 19, ground := Ground.phase }], guard := none }) (v := ?v41x32) rfl (by kernel_rfl) (by kernel_rfl) (by kernel_rfl) (fun _ _ _ h => h) (Or.inl ⟨by rfl, ?y41x32⟩) hn ?r41x32
          case y41x32 => (intro wS hS; (try go_simp); (try with_reducible rfl))
          try simp only [Act.put, List.setIfInBounds_toArray, List.set_cons_zero, List.set_cons_succ]
          refine wpAnyH_ready (rs := [21]) (by kernel_rfl) (by simp) ?_
          refine AllReadyH.cons (o := { dst := none, op := Op.store 9 (Operand.tmp 76) (Operand.const (Value.string { data := #[] })), type := 0, pos := "instr.go:64", after := #[{ on := 20, ground := Ground.data }, { on := 19, ground := Ground.chain }, { on := 0, ground := Ground.phase }, { on := 1, ground := Ground.phase }, { on := 2, ground := Ground.phase }, { on := 3, ground := Ground.phase }, { on := 4, ground := Ground.phase }, { on := 5, ground := Ground.phase }, { on := 6, ground := Ground.phase }, { on := 7, ground := Ground.phase }, { on := 8, ground := Ground.phase }, { on := 9, ground := Ground.phase }, { on := 10, ground := Ground.phase }, { on := 11, ground := Ground.phase }, { on := 12, ground := Ground.phase }, { on := 13, ground := Ground.phase }, { on := 14, ground := Ground.phase }, { on := 15, ground := Ground.phase }, { on := 16, ground := Ground.phase }, { on := 17, ground := Ground.phase }, { on := 18, ground := Ground.phase }, { on := 19, ground := Ground.phase }], guard := none }) rfl (fun K hK => ?_) AllReadyH.nil
          have z9 := cellAt hbx 9 (v := .string raw) rfl
          have f9 := frozenAt hbx 9
          go_simp
          have hbx := hp_set hbx 9 (.string ⟨#[]⟩)
          have hn : (fun w' => New w w' ∧ w'.heap[wa.heap.size]? = some (.cells #[.int .i64 11, .int .i64 ln] 66)) (wr.setCell ⟨w.heap.size, 9, none⟩ (.string ⟨#[]⟩)) := ⟨setNew hn.1 9 _, hp_other hn.2 HNE.out⟩
          refine hK.out _ _ (by first | exact hn | exact Upd.alloc hn _) (fun hn => ?_)
          clear hK K
          try simp only [Act.put, List.setIfInBounds_toArray, List.set_cons_zero, List.set_cons_succ]
          refine wpAnyH_done (by kernel_rfl) ?_ _
          refine NoPanic.normal ?_
          go_wp2_with fail
          go_meet
          exact ⟨_, (.slice al li.length cl), (.slice au (lb ty).length cu), rfl, (by have h := has_ne HBH.out; simp [ownQ, h]), hbx, hn.1, HL.out.new hn.1, HU.out.new hn.1⟩
      · -- 12
        have HS2 := hid (fun l w => HSP.out 12 l w)
        rw [spanV_12] at HS2
        have HH2 := hid (fun w => HHA.out 8 8 raw.size w)
        obtain ⟨bh, hbh⟩ : ∃ bh, Span.has 8 8 raw.size = bh := ⟨_, rfl⟩
        rw [hbh] at HH2
        have y0 : wb.cell? ⟨wa.heap.size, 0, none⟩ = some (.int .i64 12) := cellAt HI.out 0 rfl
        have y1 : wb.cell? ⟨wa.heap.size, 1, none⟩ = some (.int .i64 ln) := cellAt HI.out 1 rfl
        have z9 : wb.cell? ⟨w.heap.size, 9, none⟩ = some (.string raw) := cellAt HB.out 9 rfl
        have f9 : wb.frozen? ⟨w.heap.size, 9, none⟩ = false := frozenAt HB.out 9
        have HBH := hid hbh
        clear hbh
        cases bh with
        | true =>
          have hn : (fun w' => New w w' ∧ w'.heap[wa.heap.size]? = some (.cells #[.int .i64 12, .int .i64 ln] 66)) wb.drew := ⟨HN.out.drew, HI.out⟩
          have hbx : Box wb.drew w.heap.size ⟨p, c, k, t, i, x, y, li, n, raw, lane, ty⟩ (.slice al li.length cl) (.slice au (lb ty).length cu) := HB.out
          clear y0 y1 z9 f9
          go_wp2_with fail
          refine wp_region_noPanic ?_
          refine wp_region_held_drew (S := (fun w' => New w w' ∧ w'.heap[wa.heap.size]? = some (.cells #[.int .i64 12, .int .i64 ln] 66))) (by kernel_rfl) (by first | exact hn | exact (Upd.refl _ _).drew | exact Upd.drew (by assumption)) (fun hn => ?_)
          generalize wb.drew = wd at *
          refine wpAnyH_take (i := 0) (oi := { dst := some 57, op := Op.move (Operand.tmp 4), type := 4, pos := "instr.go:64", after := #[], guard := none }) (v := ?v42x1) rfl (by kernel_rfl) (by kernel_rfl) (by kernel_rfl) (fun _ _ _ h => h) (Or.inl ⟨by rfl, ?y42x1⟩) hn ?r42x1
          case y42x1 => (intro wS hS; (try go_simp); (try with_reducible rfl))
          try simp only [Act.put, List.setIfInBounds_toArray, List.set_cons_zero, List.set_cons_succ]
          refine wpAnyH_take (i := 1) (oi := { dst := some 58, op := Op.move (Operand.tmp 57), type := 4, pos := "instr.go:64", after := #[{ on := 0, ground := Ground.data }], guard := none }) (v := ?v42x2) rfl (by kernel_rfl) (by kernel_rfl) (by kernel_rfl) (fun _ _ _ h => h) (Or.inl ⟨by rfl, ?y42x2⟩) hn ?r42x2
          case y42x2 => (intro wS hS; (try go_simp); (try with_reducible rfl))
          try simp only [Act.put, List.setIfInBounds_toArray, List.set_cons_zero, List.set_cons_succ]
          refine wpAnyH_take (i := 2) (oi := { dst := some 59, op := Op.load 66 (Operand.tmp 3), type := 66, pos := "instr.go:64", after := #[{ on := 1, ground := Ground.guard }], guard := some (1, true) }) (v := ?v42x3) rfl (by kernel_rfl) (by kernel_rfl) (by kernel_rfl) (fun _ _ _ h => h) (Or.inl ⟨by rfl, ?y42x3⟩) hn ?r42x3
          case y42x3 => (intro wS hS; have c0 := cellAt hS.2 0 rfl; have c1 := cellAt hS.2 1 rfl; (try go_simp); (try with_reducible rfl))
          try simp only [Act.put, List.setIfInBounds_toArray, List.set_cons_zero, List.set_cons_succ]
          refine wpAnyH_take (i := 4) (oi := { dst := some 61, op := Op.fieldAddr 34 (Operand.tmp 1) 6, type := 0, pos := "instr.go:64", after := #[{ on := 1, ground := Ground.guard }], guard := some (1, true) }) (v := ?v42x4) rfl (by kernel_rfl) (by kernel_rfl) (by kernel_rfl) (fun _ _ _ h => h) (Or.inl ⟨by rfl, ?y42x4⟩) hn ?r42x4
          case y42x4 => (intro wS hS; (try go_simp); (try with_reducible rfl))
          try simp only [Act.put, List.setIfInBounds_toArray, List.set_cons_zero, List.set_cons_succ]
          refine wpAnyH_ready (rs := [3, 5]) (by kernel_rfl) (by simp) ?_
          refine AllReadyH.cons (o := { dst := some 60, op := Op.call { callee := Callee.value (Operand.func 31), args := #[Operand.tmp 59], argTypes := #[66] }, type := 70, pos := "instr.go:64", after := #[{ on := 2, ground := Ground.data }, { on := 1, ground := Ground.chain }, { on := 1, ground := Ground.guard }], guard := some (1, true) }) rfl (fun K hK => ?_) ?_
          · skip
            go_simp
            refine (HS2.out _ _).mono ?_
            rintro e wq ⟨rfl, hnq⟩
            go_wp2_with fail
            have hbx := hp1 hbx hnq
            have hn : (fun w' => New w w' ∧ w'.heap[wa.heap.size]? = some (.cells #[.int .i64 12, .int .i64 ln] 66)) wq := ⟨New.trans hn.1 hnq, hp1 hn.2 hnq⟩
            refine hK.out _ _ (by first | exact hn | exact Upd.alloc hn _) (fun hn => ?_)
            clear hK K
            try simp only [Act.put, List.setIfInBounds_toArray, List.set_cons_zero, List.set_cons_succ]
            refine wpAnyH_ready (rs := [5]) (by kernel_rfl) (by simp) ?_
            refine AllReadyH.cons (o := { dst := some 62, op := Op.load 9 (Operand.tmp 61), type := 9, pos := "instr.go:64", after := #[{ on := 4, ground := Ground.data }, { on := 1, ground := Ground.guard }], guard := some (1, true) }) rfl (fun K hK => ?_) AllReadyH.nil
            have z9 := cellAt hbx 9 (v := .string raw) rfl
            go_simp
            refine hK.out _ _ (by first | exact hn | exact Upd.alloc hn _) (fun hn => ?_)
            clear hK K
            try simp only [Act.put, List.setIfInBounds_toArray, List.set_cons_zero, List.set_cons_succ]
            refine wpAnyH_take (i := 6) (oi := { dst := some 63, op := Op.call { callee := Callee.builtin Builtin.len, args := #[Operand.tmp 62], argTypes := #[9] }, type := 3, pos := "instr.go:64", after := #[{ on := 5, ground := Ground.data }, { on := 1, ground := Ground.guard }], guard := some (1, true) }) (v := ?v42x5) rfl (by kernel_rfl) (by kernel_rfl) (by kernel_rfl) (fun _ _ _ h => h) (Or.inl ⟨by rfl, ?y42x5⟩) hn ?r42x5
            case y42x5 => (intro wS hS; (try go_simp); (try with_reducible rfl))
            try simp only [Act.put, List.setIfInBounds_toArray, List.set_cons_zero, List.set_cons_succ]
            refine wpAnyH_ready (rs := [7]) (by kernel_rfl) (by simp) ?_
            refine AllReadyH.cons (o := { dst := some 64, op := Op.call { callee := Callee.value (Operand.func 32), args := #[Operand.tmp 60, Operand.tmp 63], argTypes := #[70, 3] }, type := 4, pos := "instr.go:64", after := #[{ on := 3, ground := Ground.data }, { on := 6, ground := Ground.data }, { on := 3, ground := Ground.chain }, { on := 1, ground := Ground.guard }], guard := some (1, true) }) rfl (fun K hK => ?_) AllReadyH.nil
            go_simp
            refine (HH2.out _).mono ?_
            rintro e wr ⟨rfl, hnq⟩
            go_wp2_with fail
            have hbx := hp1 hbx hnq
            have hn : (fun w' => New w w' ∧ w'.heap[wa.heap.size]? = some (.cells #[.int .i64 12, .int .i64 ln] 66)) wr := ⟨New.trans hn.1 hnq, hp1 hn.2 hnq⟩
            refine hK.out _ _ (by first | exact hn | exact Upd.alloc hn _) (fun hn => ?_)
            clear hK K
            try simp only [Act.put, List.setIfInBounds_toArray, List.set_cons_zero, List.set_cons_succ]
            refine wpAnyH_take (i := 8) (oi := { dst := some 65, op := Op.pick (Operand.tmp 58) (Operand.tmp 64) (Operand.const (Value.bool false)), type := 4, pos := "instr.go:64", after := #[{ on := 1, ground := Ground.data }, { on := 7, ground := Ground.data }], guard := none }) (v := ?v42x6) rfl (by kernel_rfl) (by kernel_rfl) (by kernel_rfl) (fun _ _ _ h => h) (Or.inl ⟨by rfl, ?y42x6⟩) hn ?r42x6
            case y42x6 => (intro wS hS; (try go_simp); (try with_reducible rfl))
            try simp only [Act.put, List.setIfInBounds_toArray, List.set_cons_zero, List.set_cons_succ]
            refine wpAnyH_take (i := 9) (oi := { dst := some 66, op := Op.move (Operand.tmp 65), type := 4, pos := "instr.go:64", after := #[{ on := 8, ground := Ground.data }, { on := 7, ground := Ground.chain }], guard := none }) (v := ?v42x7) rfl (by kernel_rfl) (by kernel_rfl) (by kernel_rfl) (fun _ _ _ h => h) (Or.inl ⟨by rfl, ?y42x7⟩) hn ?r42x7
            case y42x7 => (intro wS hS; (try go_simp); (try with_reducible rfl))
            try simp only [Act.put, List.setIfInBounds_toArray, List.set_cons_zero, List.set_cons_succ]
            refine wpAnyH_take (i := 10) (oi := { dst := some 67, op := Op.fieldAddr 66 (Operand.tmp 3) 0, type := 0, pos := "instr.go:64", after := #[{ on := 9, ground := Ground.guard }], guard := some (9, true) }) (v := ?v42x8) rfl (by kernel_rfl) (by kernel_rfl) (by kernel_rfl) (fun _ _ _ h => h) (Or.inl ⟨by rfl, ?y42x8⟩) hn ?r42x8
            case y42x8 => (intro wS hS; (try go_simp); (try with_reducible rfl))
            try simp only [Act.put, List.setIfInBounds_toArray, List.set_cons_zero, List.set_cons_succ]
            refine wpAnyH_take (i := 11) (oi := { dst := some 68, op := Op.load 3 (Operand.tmp 67), type := 3, pos := "instr.go:64", after := #[{ on := 10, ground := Ground.data }, { on := 9, ground := Ground.guard }], guard := some (9, true) }) (v := ?v42x9) rfl (by kernel_rfl) (by kernel_rfl) (by kernel_rfl) (fun _ _ _ h => h) (Or.inl ⟨by rfl, ?y42x9⟩) hn ?r42x9
            case y42x9 => (intro wS hS; have c0 := cellAt hS.2 0 rfl; (try go_simp); (try with_reducible rfl))
            try simp only [Act.put, List.setIfInBounds_toArray, List.set_cons_zero, List.set_cons_succ]
            refine wpAnyH_take (i := 12) (oi := { dst := some 69, op := Op.binOp BinOp.neq 3 (Operand.tmp 68) (Operand.const (Value.int IntKind.i64 14)) 3, type := 4, pos := "instr.go:64", after := #[{ on := 11, ground := Ground.data }, { on := 9, ground := Ground.guard }], guard := some (9, true) }) (v := ?v42x10) rfl (by kernel_rfl) (by kernel_rfl) (by kernel_rfl) (fun _ _ _ h => h) (Or.inl ⟨by rfl, ?y42x10⟩) hn ?r42x10
            case y42x10 => (intro wS hS; (try go_simp); (try with_reducible rfl))
            try simp only [Act.put, List.setIfInBounds_toArray, List.set_cons_zero, List.set_cons_succ]
            refine wpAnyH_take (i := 13) (oi := { dst := some 70, op := Op.move (Operand.tmp 69), type := 4, pos := "instr.go:64", after := #[{ on := 12, ground := Ground.data }, { on := 9, ground := Ground.chain }, { on := 9, ground := Ground.guard }], guard := some (9, true) }) (v := ?v42x11) rfl (by kernel_rfl) (by kernel_rfl) (by kernel_rfl) (fun _ _ _ h => h) (Or.inl ⟨by rfl, ?y42x11⟩) hn ?r42x11
            case y42x11 => (intro wS hS; (try go_simp); (try with_reducible rfl))
            try simp only [Act.put, List.setIfInBounds_toArray, List.set_cons_zero, List.set_cons_succ]
            refine wpAnyH_take (i := 14) (oi := { dst := some 71, op := Op.fieldAddr 34 (Operand.tmp 1) 6, type := 0, pos := "instr.go:64", after := #[{ on := 13, ground := Ground.guard }], guard := some (13, false) }) (v := undef) rfl (by kernel_rfl) (by kernel_rfl) (by kernel_rfl) (fun _ _ _ h => h) (Or.inr ⟨by rfl, rfl⟩) hn ?_
            try simp only [Act.put, List.setIfInBounds_toArray, List.set_cons_zero, List.set_cons_succ]
            refine wpAnyH_take (i := 15) (oi := { dst := some 72, op := Op.load 9 (Operand.tmp 71), type := 9, pos := "instr.go:64", after := #[{ on := 14, ground := Ground.data }, { on := 13, ground := Ground.guard }], guard := some (13, false) }) (v := undef) rfl (by kernel_rfl) (by kernel_rfl) (by kernel_rfl) (fun _ _ _ h => h) (Or.inr ⟨by rfl, rfl⟩) hn ?_
            try simp only [Act.put, List.setIfInBounds_toArray, List.set_cons_zero, List.set_cons_succ]
            refine wpAnyH_take (i := 16) (oi := { dst := some 73, op := Op.call { callee := Callee.value (Operand.func 33), args := #[Operand.tmp 72], argTypes := #[9] }, type := 4, pos := "instr.go:64", after := #[{ on := 15, ground := Ground.data }, { on := 13, ground := Ground.chain }, { on := 13, ground := Ground.guard }], guard := some (13, false) }) (v := undef) rfl (by kernel_rfl) (by kernel_rfl) (by kernel_rfl) (fun _ _ _ h => h) (Or.inr ⟨by rfl, rfl⟩) hn ?_
            try simp only [Act.put, List.setIfInBounds_toArray, List.set_cons_zero, List.set_cons_succ]
            refine wpAnyH_take (i := 17) (oi := { dst := some 74, op := Op.pick (Operand.tmp 70) (Operand.const (Value.bool true)) (Operand.tmp 73), type := 4, pos := "instr.go:64", after := #[{ on := 13, ground := Ground.data }, { on := 16, ground := Ground.data }, { on := 9, ground := Ground.guard }], guard := some (9, true) }) (v := ?v42x15) rfl (by kernel_rfl) (by kernel_rfl) (by kernel_rfl) (fun _ _ _ h => h) (Or.inl ⟨by rfl, ?y42x15⟩) hn ?r42x15
            case y42x15 => (intro wS hS; (try go_simp); (try with_reducible rfl))
            try simp only [Act.put, List.setIfInBounds_toArray, List.set_cons_zero, List.set_cons_succ]
            refine wpAnyH_take (i := 18) (oi := { dst := some 75, op := Op.pick (Operand.tmp 66) (Operand.tmp 74) (Operand.const (Value.bool false)), type := 4, pos := "instr.go:64", after := #[{ on := 9, ground := Ground.data }, { on := 17, ground := Ground.data }], guard := none }) (v := ?v42x16) rfl (by kernel_rfl) (by kernel_rfl) (by kernel_rfl) (fun _ _ _ h => h) (Or.inl ⟨by rfl, ?y42x16⟩) hn ?r42x16
            case y42x16 => (intro wS hS; (try go_simp); (try with_reducible rfl))
            try simp only [Act.put, List.setIfInBounds_toArray, List.set_cons_zero, List.set_cons_succ]
            refine wpAnyH_take (i := 19) (oi := { dst := some 4, op := Op.assign (Operand.tmp 75), type := 4, pos := "instr.go:64", after := #[{ on := 18, ground := Ground.data }, { on := 16, ground := Ground.chain }, { on := 0, ground := Ground.phase }, { on := 1, ground := Ground.phase }, { on := 2, ground := Ground.phase }, { on := 3, ground := Ground.phase }, { on := 4, ground := Ground.phase }, { on := 5, ground := Ground.phase }, { on := 6, ground := Ground.phase }, { on := 7, ground := Ground.phase }, { on := 8, ground := Ground.phase }, { on := 9, ground := Ground.phase }, { on := 10, ground := Ground.phase }, { on := 11, ground := Ground.phase }, { on := 12, ground := Ground.phase }, { on := 13, ground := Ground.phase }, { on := 14, ground := Ground.phase }, { on := 15, ground := Ground.phase }, { on := 16, ground := Ground.phase }, { on := 17, ground := Ground.phase }, { on := 18, ground := Ground.phase }], guard := none }) (v := ?v42x17) rfl (by kernel_rfl) (by kernel_rfl) (by kernel_rfl) (fun _ _ _ h => h) (Or.inl ⟨by rfl, ?y42x17⟩) hn ?r42x17
            case y42x17 => (intro wS hS; (try go_simp); (try with_reducible rfl))
            try simp only [Act.put, List.setIfInBounds_toArray, List.set_cons_zero, List.set_cons_succ]
            refine wpAnyH_take (i := 20) (oi := { dst := some 76, op := Op.fieldAddr 34 (Operand.tmp 1) 6, type := 0, pos := "instr.go:64", after := #[{ on := 0, ground := Ground.phase }, { on := 1, ground := Ground.phase }, { on := 2, ground := Ground.phase }, { on := 3, ground := Ground.phase }, { on := 4, ground := Ground.phase }, { on := 5, ground := Ground.phase }, { on := 6, ground := Ground.phase }, { on := 7, ground := Ground.phase }, { on := 8, ground := Ground.phase }, { on := 9, ground := Ground.phase }, { on := 10, ground := Ground.phase }, { on := 11, ground := Ground.phase }, { on := 12, ground := Ground.phase }, { on := 13, ground := Ground.phase }, { on := 14, ground := Ground.phase }, { on := 15, ground := Ground.phase }, { on := 16, ground := Ground.phase }, { on := 17, ground := Ground.phase }, { on := 18, ground := Ground.phase }, { on := 19, ground := Ground.phase }], guard := none }) (v := ?v42x18) rfl (by kernel_rfl) (by kernel_rfl) (by kernel_rfl) (fun _ _ _ h => h) (Or.inl ⟨by rfl, ?y42x18⟩) hn ?r42x18
            case y42x18 => (intro wS hS; (try go_simp); (try with_reducible rfl))
            try simp only [Act.put, List.setIfInBounds_toArray, List.set_cons_zero, List.set_cons_succ]
            refine wpAnyH_ready (rs := [21]) (by kernel_rfl) (by simp) ?_
            refine AllReadyH.cons (o := { dst := none, op := Op.store 9 (Operand.tmp 76) (Operand.const (Value.string { data := #[] })), type := 0, pos := "instr.go:64", after := #[{ on := 20, ground := Ground.data }, { on := 19, ground := Ground.chain }, { on := 0, ground := Ground.phase }, { on := 1, ground := Ground.phase }, { on := 2, ground := Ground.phase }, { on := 3, ground := Ground.phase }, { on := 4, ground := Ground.phase }, { on := 5, ground := Ground.phase }, { on := 6, ground := Ground.phase }, { on := 7, ground := Ground.phase }, { on := 8, ground := Ground.phase }, { on := 9, ground := Ground.phase }, { on := 10, ground := Ground.phase }, { on := 11, ground := Ground.phase }, { on := 12, ground := Ground.phase }, { on := 13, ground := Ground.phase }, { on := 14, ground := Ground.phase }, { on := 15, ground := Ground.phase }, { on := 16, ground := Ground.phase }, { on := 17, ground := Ground.phase }, { on := 18, ground := Ground.phase }, { on := 19, ground := Ground.phase }], guard := none }) rfl (fun K hK => ?_) AllReadyH.nil
            have z9 := cellAt hbx 9 (v := .string raw) rfl
            have f9 := frozenAt hbx 9
            go_simp
            have hbx := hp_set hbx 9 (.string ⟨#[]⟩)
            have hn : (fun w' => New w w' ∧ w'.heap[wa.heap.size]? = some (.cells #[.int .i64 12, .int .i64 ln] 66)) (wr.setCell ⟨w.heap.size, 9, none⟩ (.string ⟨#[]⟩)) := ⟨setNew hn.1 9 _, hp_other hn.2 HNE.out⟩
            refine hK.out _ _ (by first | exact hn | exact Upd.alloc hn _) (fun hn => ?_)
            clear hK K
            try simp only [Act.put, List.setIfInBounds_toArray, List.set_cons_zero, List.set_cons_succ]
            refine wpAnyH_done (by kernel_rfl) ?_ _
            refine NoPanic.normal ?_
            go_wp2_with fail
            go_meet
            exact ⟨_, (.slice al li.length cl), (.slice au (lb ty).length cu), rfl, (by have h : raw.size = 8 := (by have := has_eq HBH.out; omega); simp [ownQ, h]), hbx, hn.1, HL.out.new hn.1, HU.out.new hn.1⟩
          refine AllReadyH.cons (o := { dst := some 62, op := Op.load 9 (Operand.tmp 61), type := 9, pos := "instr.go:64", after := #[{ on := 4, ground := Ground.data }, { on := 1, ground := Ground.guard }], guard := some (1, true) }) rfl (fun K hK => ?_) AllReadyH.nil
          have z9 := cellAt hbx 9 (v := .string raw) rfl
          go_simp
          refine hK.out _ _ (by first | exact hn | exact Upd.alloc hn _) (fun hn => ?_)
          clear hK K
          try simp only [Act.put, List.setIfInBounds_toArray, List.set_cons_zero, List.set_cons_succ]
          refine wpAnyH_take (i := 6) (oi := { dst := some 63, op := Op.call { callee := Callee.builtin Builtin.len, args := #[Operand.tmp 62], argTypes := #[9] }, type := 3, pos := "instr.go:64", after := #[{ on := 5, ground := Ground.data }, { on := 1, ground := Ground.guard }], guard := some (1, true) }) (v := ?v42x19) rfl (by kernel_rfl) (by kernel_rfl) (by kernel_rfl) (fun _ _ _ h => h) (Or.inl ⟨by rfl, ?y42x19⟩) hn ?r42x19
          case y42x19 => (intro wS hS; (try go_simp); (try with_reducible rfl))
          try simp only [Act.put, List.setIfInBounds_toArray, List.set_cons_zero, List.set_cons_succ]
          refine wpAnyH_ready (rs := [3]) (by kernel_rfl) (by simp) ?_
          refine AllReadyH.cons (o := { dst := some 60, op := Op.call { callee := Callee.value (Operand.func 31), args := #[Operand.tmp 59], argTypes := #[66] }, type := 70, pos := "instr.go:64", after := #[{ on := 2, ground := Ground.data }, { on := 1, ground := Ground.chain }, { on := 1, ground := Ground.guard }], guard := some (1, true) }) rfl (fun K hK => ?_) AllReadyH.nil
          go_simp
          refine (HS2.out _ _).mono ?_
          rintro e wq ⟨rfl, hnq⟩
          go_wp2_with fail
          have hbx := hp1 hbx hnq
          have hn : (fun w' => New w w' ∧ w'.heap[wa.heap.size]? = some (.cells #[.int .i64 12, .int .i64 ln] 66)) wq := ⟨New.trans hn.1 hnq, hp1 hn.2 hnq⟩
          refine hK.out _ _ (by first | exact hn | exact Upd.alloc hn _) (fun hn => ?_)
          clear hK K
          try simp only [Act.put, List.setIfInBounds_toArray, List.set_cons_zero, List.set_cons_succ]
          refine wpAnyH_ready (rs := [7]) (by kernel_rfl) (by simp) ?_
          refine AllReadyH.cons (o := { dst := some 64, op := Op.call { callee := Callee.value (Operand.func 32), args := #[Operand.tmp 60, Operand.tmp 63], argTypes := #[70, 3] }, type := 4, pos := "instr.go:64", after := #[{ on := 3, ground := Ground.data }, { on := 6, ground := Ground.data }, { on := 3, ground := Ground.chain }, { on := 1, ground := Ground.guard }], guard := some (1, true) }) rfl (fun K hK => ?_) AllReadyH.nil
          go_simp
          refine (HH2.out _).mono ?_
          rintro e wr ⟨rfl, hnq⟩
          go_wp2_with fail
          have hbx := hp1 hbx hnq
          have hn : (fun w' => New w w' ∧ w'.heap[wa.heap.size]? = some (.cells #[.int .i64 12, .int .i64 ln] 66)) wr := ⟨New.trans hn.1 hnq, hp1 hn.2 hnq⟩
          refine hK.out _ _ (by first | exact hn | exact Upd.alloc hn _) (fun hn => ?_)
          clear hK K
          try simp only [Act.put, List.setIfInBounds_toArray, List.set_cons_zero, List.set_cons_succ]
          refine wpAnyH_take (i := 8) (oi := { dst := some 65, op := Op.pick (Operand.tmp 58) (Operand.tmp 64) (Operand.const (Value.bool false)), type := 4, pos := "instr.go:64", after := #[{ on := 1, ground := Ground.data }, { on := 7, ground := Ground.data }], guard := none }) (v := ?v42x20) rfl (by kernel_rfl) (by kernel_rfl) (by kernel_rfl) (fun _ _ _ h => h) (Or.inl ⟨by rfl, ?y42x20⟩) hn ?r42x20
          case y42x20 => (intro wS hS; (try go_simp); (try with_reducible rfl))
          try simp only [Act.put, List.setIfInBounds_toArray, List.set_cons_zero, List.set_cons_succ]
          refine wpAnyH_take (i := 9) (oi := { dst := some 66, op := Op.move (Operand.tmp 65), type := 4, pos := "instr.go:64", after := #[{ on := 8, ground := Ground.data }, { on := 7, ground := Ground.chain }], guard := none }) (v := ?v42x21) rfl (by kernel_rfl) (by kernel_rfl) (by kernel_rfl) (fun _ _ _ h => h) (Or.inl ⟨by rfl, ?y42x21⟩) hn ?r42x21
          case y42x21 => (intro wS hS; (try go_simp); (try with_reducible rfl))
          try simp only [Act.put, List.setIfInBounds_toArray, List.set_cons_zero, List.set_cons_succ]
          refine wpAnyH_take (i := 10) (oi := { dst := some 67, op := Op.fieldAddr 66 (Operand.tmp 3) 0, type := 0, pos := "instr.go:64", after := #[{ on := 9, ground := Ground.guard }], guard := some (9, true) }) (v := ?v42x22) rfl (by kernel_rfl) (by kernel_rfl) (by kernel_rfl) (fun _ _ _ h => h) (Or.inl ⟨by rfl, ?y42x22⟩) hn ?r42x22
          case y42x22 => (intro wS hS; (try go_simp); (try with_reducible rfl))
          try simp only [Act.put, List.setIfInBounds_toArray, List.set_cons_zero, List.set_cons_succ]
          refine wpAnyH_take (i := 11) (oi := { dst := some 68, op := Op.load 3 (Operand.tmp 67), type := 3, pos := "instr.go:64", after := #[{ on := 10, ground := Ground.data }, { on := 9, ground := Ground.guard }], guard := some (9, true) }) (v := ?v42x23) rfl (by kernel_rfl) (by kernel_rfl) (by kernel_rfl) (fun _ _ _ h => h) (Or.inl ⟨by rfl, ?y42x23⟩) hn ?r42x23
          case y42x23 => (intro wS hS; have c0 := cellAt hS.2 0 rfl; (try go_simp); (try with_reducible rfl))
          try simp only [Act.put, List.setIfInBounds_toArray, List.set_cons_zero, List.set_cons_succ]
          refine wpAnyH_take (i := 12) (oi := { dst := some 69, op := Op.binOp BinOp.neq 3 (Operand.tmp 68) (Operand.const (Value.int IntKind.i64 14)) 3, type := 4, pos := "instr.go:64", after := #[{ on := 11, ground := Ground.data }, { on := 9, ground := Ground.guard }], guard := some (9, true) }) (v := ?v42x24) rfl (by kernel_rfl) (by kernel_rfl) (by kernel_rfl) (fun _ _ _ h => h) (Or.inl ⟨by rfl, ?y42x24⟩) hn ?r42x24
          case y42x24 => (intro wS hS; (try go_simp); (try with_reducible rfl))
          try simp only [Act.put, List.setIfInBounds_toArray, List.set_cons_zero, List.set_cons_succ]
          refine wpAnyH_take (i := 13) (oi := { dst := some 70, op := Op.move (Operand.tmp 69), type := 4, pos := "instr.go:64", after := #[{ on := 12, ground := Ground.data }, { on := 9, ground := Ground.chain }, { on := 9, ground := Ground.guard }], guard := some (9, true) }) (v := ?v42x25) rfl (by kernel_rfl) (by kernel_rfl) (by kernel_rfl) (fun _ _ _ h => h) (Or.inl ⟨by rfl, ?y42x25⟩) hn ?r42x25
          case y42x25 => (intro wS hS; (try go_simp); (try with_reducible rfl))
          try simp only [Act.put, List.setIfInBounds_toArray, List.set_cons_zero, List.set_cons_succ]
          refine wpAnyH_take (i := 14) (oi := { dst := some 71, op := Op.fieldAddr 34 (Operand.tmp 1) 6, type := 0, pos := "instr.go:64", after := #[{ on := 13, ground := Ground.guard }], guard := some (13, false) }) (v := undef) rfl (by kernel_rfl) (by kernel_rfl) (by kernel_rfl) (fun _ _ _ h => h) (Or.inr ⟨by rfl, rfl⟩) hn ?_
          try simp only [Act.put, List.setIfInBounds_toArray, List.set_cons_zero, List.set_cons_succ]
          refine wpAnyH_take (i := 15) (oi := { dst := some 72, op := Op.load 9 (Operand.tmp 71), type := 9, pos := "instr.go:64", after := #[{ on := 14, ground := Ground.data }, { on := 13, ground := Ground.guard }], guard := some (13, false) }) (v := undef) rfl (by kernel_rfl) (by kernel_rfl) (by kernel_rfl) (fun _ _ _ h => h) (Or.inr ⟨by rfl, rfl⟩) hn ?_
          try simp only [Act.put, List.setIfInBounds_toArray, List.set_cons_zero, List.set_cons_succ]
          refine wpAnyH_take (i := 16) (oi := { dst := some 73, op := Op.call { callee := Callee.value (Operand.func 33), args := #[Operand.tmp 72], argTypes := #[9] }, type := 4, pos := "instr.go:64", after := #[{ on := 15, ground := Ground.data }, { on := 13, ground := Ground.chain }, { on := 13, ground := Ground.guard }], guard := some (13, false) }) (v := undef) rfl (by kernel_rfl) (by kernel_rfl) (by kernel_rfl) (fun _ _ _ h => h) (Or.inr ⟨by rfl, rfl⟩) hn ?_
          try simp only [Act.put, List.setIfInBounds_toArray, List.set_cons_zero, List.set_cons_succ]
          refine wpAnyH_take (i := 17) (oi := { dst := some 74, op := Op.pick (Operand.tmp 70) (Operand.const (Value.bool true)) (Operand.tmp 73), type := 4, pos := "instr.go:64", after := #[{ on := 13, ground := Ground.data }, { on := 16, ground := Ground.data }, { on := 9, ground := Ground.guard }], guard := some (9, true) }) (v := ?v42x29) rfl (by kernel_rfl) (by kernel_rfl) (by kernel_rfl) (fun _ _ _ h => h) (Or.inl ⟨by rfl, ?y42x29⟩) hn ?r42x29
          case y42x29 => (intro wS hS; (try go_simp); (try with_reducible rfl))
          try simp only [Act.put, List.setIfInBounds_toArray, List.set_cons_zero, List.set_cons_succ]
          refine wpAnyH_take (i := 18) (oi := { dst := some 75, op := Op.pick (Operand.tmp 66) (Operand.tmp 74) (Operand.const (Value.bool false)), type := 4, pos := "instr.go:64", after := #[{ on := 9, ground := Ground.data }, { on := 17, ground := Ground.data }], guard := none }) (v := ?v42x30) rfl (by kernel_rfl) (by kernel_rfl) (by kernel_rfl) (fun _ _ _ h => h) (Or.inl ⟨by rfl, ?y42x30⟩) hn ?r42x30
          case y42x30 => (intro wS hS; (try go_simp); (try with_reducible rfl))
          try simp only [Act.put, List.setIfInBounds_toArray, List.set_cons_zero, List.set_cons_succ]
          refine wpAnyH_take (i := 19) (oi := { dst := some 4, op := Op.assign (Operand.tmp 75), type := 4, pos := "instr.go:64", after := #[{ on := 18, ground := Ground.data }, { on := 16, ground := Ground.chain }, { on := 0, ground := Ground.phase }, { on := 1, ground := Ground.phase }, { on := 2, ground := Ground.phase }, { on := 3, ground := Ground.phase }, { on := 4, ground := Ground.phase }, { on := 5, ground := Ground.phase }, { on := 6, ground := Ground.phase }, { on := 7, ground := Ground.phase }, { on := 8, ground := Ground.phase }, { on := 9, ground := Ground.phase }, { on := 10, ground := Ground.phase }, { on := 11, ground := Ground.phase }, { on := 12, ground := Ground.phase }, { on := 13, ground := Ground.phase }, { on := 14, ground := Ground.phase }, { on := 15, ground := Ground.phase }, { on := 16, ground := Ground.phase }, { on := 17, ground := Ground.phase }, { on := 18, ground := Ground.phase }], guard := none }) (v := ?v42x31) rfl (by kernel_rfl) (by kernel_rfl) (by kernel_rfl) (fun _ _ _ h => h) (Or.inl ⟨by rfl, ?y42x31⟩) hn ?r42x31
          case y42x31 => (intro wS hS; (try go_simp); (try with_reducible rfl))
          try simp only [Act.put, List.setIfInBounds_toArray, List.set_cons_zero, List.set_cons_succ]
          refine wpAnyH_take (i := 20) (oi := { dst := some 76, op := Op.fieldAddr 34 (Operand.tmp 1) 6, type := 0, pos := "instr.go:64", after := #[{ on := 0, ground := Ground.phase }, { on := 1, ground := Ground.phase }, { on := 2, ground := Ground.phase }, { on := 3, ground := Ground.phase }, { on := 4, ground := Ground.phase }, { on := 5, ground := Ground.phase }, { on := 6, ground := Ground.phase }, { on := 7, ground := Ground.phase }, { on := 8, ground := Ground.phase }, { on := 9, ground := Ground.phase }, { on := 10, ground := Ground.phase }, { on := 11, ground := Ground.phase }, { on := 12, ground := Ground.phase }, { on := 13, ground := Ground.phase }, { on := 14, ground := Ground.phase }, { on := 15, ground := Ground.phase }, { on := 16, ground := Ground.phase }, { on := 17, ground := Ground.phase }, { on := 18, ground := Ground.phase }, { on := 19, ground := Ground.phase }], guard := none }) (v := ?v42x32) rfl (by kernel_rfl) (by kernel_rfl) (by kernel_rfl) (fun _ _ _ h => h) (Or.inl ⟨by rfl, ?y42x32⟩) hn ?r42x32
          case y42x32 => (intro wS hS; (try go_simp); (try with_reducible rfl))
          try simp only [Act.put, List.setIfInBounds_toArray, List.set_cons_zero, List.set_cons_succ]
          refine wpAnyH_ready (rs := [21]) (by kernel_rfl) (by simp) ?_
          refine AllReadyH.cons (o := { dst := none, op := Op.store 9 (Operand.tmp 76) (Operand.const (Value.string { data := #[] })), type := 0, pos := "instr.go:64", after := #[{ on := 20, ground := Ground.data }, { on := 19, ground := Ground.chain }, { on := 0, ground := Ground.phase }, { on := 1, ground := Ground.phase }, { on := 2, ground := Ground.phase }, { on := 3, ground := Ground.phase }, { on := 4, ground := Ground.phase }, { on := 5, ground := Ground.phase }, { on := 6, ground := Ground.phase }, { on := 7, ground := Ground.phase }, { on := 8, ground := Ground.phase }, { on := 9, ground := Ground.phase }, { on := 10, ground := Ground.phase }, { on := 11, ground := Ground.phase }, { on := 12, ground := Ground.phase }, { on := 13, ground := Ground.phase }, { on := 14, ground := Ground.phase }, { on := 15, ground := Ground.phase }, { on := 16, ground := Ground.phase }, { on := 17, ground := Ground.phase }, { on := 18, ground := Ground.phase }, { on := 19, ground := Ground.phase }], guard := none }) rfl (fun K hK => ?_) AllReadyH.nil
          have z9 := cellAt hbx 9 (v := .string raw) rfl
          have f9 := frozenAt hbx 9
          go_simp
          have hbx := hp_set hbx 9 (.string ⟨#[]⟩)
          have hn : (fun w' => New w w' ∧ w'.heap[wa.heap.size]? = some (.cells #[.int .i64 12, .int .i64 ln] 66)) (wr.setCell ⟨w.heap.size, 9, none⟩ (.string ⟨#[]⟩)) := ⟨setNew hn.1 9 _, hp_other hn.2 HNE.out⟩
          refine hK.out _ _ (by first | exact hn | exact Upd.alloc hn _) (fun hn => ?_)
          clear hK K
          try simp only [Act.put, List.setIfInBounds_toArray, List.set_cons_zero, List.set_cons_succ]
          refine wpAnyH_done (by kernel_rfl) ?_ _
          refine NoPanic.normal ?_
          go_wp2_with fail
          go_meet
          exact ⟨_, (.slice al li.length cl), (.slice au (lb ty).length cu), rfl, (by have h : raw.size = 8 := (by have := has_eq HBH.out; omega); simp [ownQ, h]), hbx, hn.1, HL.out.new hn.1, HU.out.new hn.1⟩
        | false =>
          have hn : (fun w' => New w w' ∧ w'.heap[wa.heap.size]? = some (.cells #[.int .i64 12, .int .i64 ln] 66)) wb.drew := ⟨HN.out.drew, HI.out⟩
          have hbx : Box wb.drew w.heap.size ⟨p, c, k, t, i, x, y, li, n, raw, lane, ty⟩ (.slice al li.length cl) (.slice au (lb ty).length cu) := HB.out
          clear y0 y1 z9 f9
          go_wp2_with fail
          refine wp_region_noPanic ?_
          refine wp_region_held_drew (S := (fun w' => New w w' ∧ w'.heap[wa.heap.size]? = some (.cells #[.int .i64 12, .int .i64 ln] 66))) (by kernel_rfl) (by first | exact hn | exact (Upd.refl _ _).drew | exact Upd.drew (by assumption)) (fun hn => ?_)
          generalize wb.drew = wd at *
          refine wpAnyH_take (i := 0) (oi := { dst := some 57, op := Op.move (Operand.tmp 4), type := 4, pos := "instr.go:64", after := #[], guard := none }) (v := ?v43x1) rfl (by kernel_rfl) (by kernel_rfl) (by kernel_rfl) (fun _ _ _ h => h) (Or.inl ⟨by rfl, ?y43x1⟩) hn ?r43x1
          case y43x1 => (intro wS hS; (try go_simp); (try with_reducible rfl))
          try simp only [Act.put, List.setIfInBounds_toArray, List.set_cons_zero, List.set_cons_succ]
          refine wpAnyH_take (i := 1) (oi := { dst := some 58, op := Op.move (Operand.tmp 57), type := 4, pos := "instr.go:64", after := #[{ on := 0, ground := Ground.data }], guard := none }) (v := ?v43x2) rfl (by kernel_rfl) (by kernel_rfl) (by kernel_rfl) (fun _ _ _ h => h) (Or.inl ⟨by rfl, ?y43x2⟩) hn ?r43x2
          case y43x2 => (intro wS hS; (try go_simp); (try with_reducible rfl))
          try simp only [Act.put, List.setIfInBounds_toArray, List.set_cons_zero, List.set_cons_succ]
          refine wpAnyH_take (i := 2) (oi := { dst := some 59, op := Op.load 66 (Operand.tmp 3), type := 66, pos := "instr.go:64", after := #[{ on := 1, ground := Ground.guard }], guard := some (1, true) }) (v := ?v43x3) rfl (by kernel_rfl) (by kernel_rfl) (by kernel_rfl) (fun _ _ _ h => h) (Or.inl ⟨by rfl, ?y43x3⟩) hn ?r43x3
          case y43x3 => (intro wS hS; have c0 := cellAt hS.2 0 rfl; have c1 := cellAt hS.2 1 rfl; (try go_simp); (try with_reducible rfl))
          try simp only [Act.put, List.setIfInBounds_toArray, List.set_cons_zero, List.set_cons_succ]
          refine wpAnyH_take (i := 4) (oi := { dst := some 61, op := Op.fieldAddr 34 (Operand.tmp 1) 6, type := 0, pos := "instr.go:64", after := #[{ on := 1, ground := Ground.guard }], guard := some (1, true) }) (v := ?v43x4) rfl (by kernel_rfl) (by kernel_rfl) (by kernel_rfl) (fun _ _ _ h => h) (Or.inl ⟨by rfl, ?y43x4⟩) hn ?r43x4
          case y43x4 => (intro wS hS; (try go_simp); (try with_reducible rfl))
          try simp only [Act.put, List.setIfInBounds_toArray, List.set_cons_zero, List.set_cons_succ]
          refine wpAnyH_ready (rs := [3, 5]) (by kernel_rfl) (by simp) ?_
          refine AllReadyH.cons (o := { dst := some 60, op := Op.call { callee := Callee.value (Operand.func 31), args := #[Operand.tmp 59], argTypes := #[66] }, type := 70, pos := "instr.go:64", after := #[{ on := 2, ground := Ground.data }, { on := 1, ground := Ground.chain }, { on := 1, ground := Ground.guard }], guard := some (1, true) }) rfl (fun K hK => ?_) ?_
          · skip
            go_simp
            refine (HS2.out _ _).mono ?_
            rintro e wq ⟨rfl, hnq⟩
            go_wp2_with fail
            have hbx := hp1 hbx hnq
            have hn : (fun w' => New w w' ∧ w'.heap[wa.heap.size]? = some (.cells #[.int .i64 12, .int .i64 ln] 66)) wq := ⟨New.trans hn.1 hnq, hp1 hn.2 hnq⟩
            refine hK.out _ _ (by first | exact hn | exact Upd.alloc hn _) (fun hn => ?_)
            clear hK K
            try simp only [Act.put, List.setIfInBounds_toArray, List.set_cons_zero, List.set_cons_succ]
            refine wpAnyH_ready (rs := [5]) (by kernel_rfl) (by simp) ?_
            refine AllReadyH.cons (o := { dst := some 62, op := Op.load 9 (Operand.tmp 61), type := 9, pos := "instr.go:64", after := #[{ on := 4, ground := Ground.data }, { on := 1, ground := Ground.guard }], guard := some (1, true) }) rfl (fun K hK => ?_) AllReadyH.nil
            have z9 := cellAt hbx 9 (v := .string raw) rfl
            go_simp
            refine hK.out _ _ (by first | exact hn | exact Upd.alloc hn _) (fun hn => ?_)
            clear hK K
            try simp only [Act.put, List.setIfInBounds_toArray, List.set_cons_zero, List.set_cons_succ]
            refine wpAnyH_take (i := 6) (oi := { dst := some 63, op := Op.call { callee := Callee.builtin Builtin.len, args := #[Operand.tmp 62], argTypes := #[9] }, type := 3, pos := "instr.go:64", after := #[{ on := 5, ground := Ground.data }, { on := 1, ground := Ground.guard }], guard := some (1, true) }) (v := ?v43x5) rfl (by kernel_rfl) (by kernel_rfl) (by kernel_rfl) (fun _ _ _ h => h) (Or.inl ⟨by rfl, ?y43x5⟩) hn ?r43x5
            case y43x5 => (intro wS hS; (try go_simp); (try with_reducible rfl))
            try simp only [Act.put, List.setIfInBounds_toArray, List.set_cons_zero, List.set_cons_succ]
            refine wpAnyH_ready (rs := [7]) (by kernel_rfl) (by simp) ?_
            refine AllReadyH.cons (o := { dst := some 64, op := Op.call { callee := Callee.value (Operand.func 32), args := #[Operand.tmp 60, Operand.tmp 63], argTypes := #[70, 3] }, type := 4, pos := "instr.go:64", after := #[{ on := 3, ground := Ground.data }, { on := 6, ground := Ground.data }, { on := 3, ground := Ground.chain }, { on := 1, ground := Ground.guard }], guard := some (1, true) }) rfl (fun K hK => ?_) AllReadyH.nil
            go_simp
            refine (HH2.out _).mono ?_
            rintro e wr ⟨rfl, hnq⟩
            go_wp2_with fail
            have hbx := hp1 hbx hnq
            have hn : (fun w' => New w w' ∧ w'.heap[wa.heap.size]? = some (.cells #[.int .i64 12, .int .i64 ln] 66)) wr := ⟨New.trans hn.1 hnq, hp1 hn.2 hnq⟩
            refine hK.out _ _ (by first | exact hn | exact Upd.alloc hn _) (fun hn => ?_)
            clear hK K
            try simp only [Act.put, List.setIfInBounds_toArray, List.set_cons_zero, List.set_cons_succ]
            refine wpAnyH_take (i := 8) (oi := { dst := some 65, op := Op.pick (Operand.tmp 58) (Operand.tmp 64) (Operand.const (Value.bool false)), type := 4, pos := "instr.go:64", after := #[{ on := 1, ground := Ground.data }, { on := 7, ground := Ground.data }], guard := none }) (v := ?v43x6) rfl (by kernel_rfl) (by kernel_rfl) (by kernel_rfl) (fun _ _ _ h => h) (Or.inl ⟨by rfl, ?y43x6⟩) hn ?r43x6
            case y43x6 => (intro wS hS; (try go_simp); (try with_reducible rfl))
            try simp only [Act.put, List.setIfInBounds_toArray, List.set_cons_zero, List.set_cons_succ]
            refine wpAnyH_take (i := 9) (oi := { dst := some 66, op := Op.move (Operand.tmp 65), type := 4, pos := "instr.go:64", after := #[{ on := 8, ground := Ground.data }, { on := 7, ground := Ground.chain }], guard := none }) (v := ?v43x7) rfl (by kernel_rfl) (by kernel_rfl) (by kernel_rfl) (fun _ _ _ h => h) (Or.inl ⟨by rfl, ?y43x7⟩) hn ?r43x7
            case y43x7 => (intro wS hS; (try go_simp); (try with_reducible rfl))
            try simp only [Act.put, List.setIfInBounds_toArray, List.set_cons_zero, List.set_cons_succ]
            refine wpAnyH_take (i := 10) (oi := { dst := some 67, op := Op.fieldAddr 66 (Operand.tmp 3) 0, type := 0, pos := "instr.go:64", after := #[{ on := 9, ground := Ground.guard }], guard := some (9, true) }) (v := undef) rfl (by kernel_rfl) (by kernel_rfl) (by kernel_rfl) (fun _ _ _ h => h) (Or.inr ⟨by rfl, rfl⟩) hn ?_
            try simp only [Act.put, List.setIfInBounds_toArray, List.set_cons_zero, List.set_cons_succ]
            refine wpAnyH_take (i := 11) (oi := { dst := some 68, op := Op.load 3 (Operand.tmp 67), type := 3, pos := "instr.go:64", after := #[{ on := 10, ground := Ground.data }, { on := 9, ground := Ground.guard }], guard := some (9, true) }) (v := undef) rfl (by kernel_rfl) (by kernel_rfl) (by kernel_rfl) (fun _ _ _ h => h) (Or.inr ⟨by rfl, rfl⟩) hn ?_
            try simp only [Act.put, List.setIfInBounds_toArray, List.set_cons_zero, List.set_cons_succ]
            refine wpAnyH_take (i := 12) (oi := { dst := some 69, op := Op.binOp BinOp.neq 3 (Operand.tmp 68) (Operand.const (Value.int IntKind.i64 14)) 3, type := 4, pos := "instr.go:64", after := #[{ on := 11, ground := Ground.data }, { on := 9, ground := Ground.guard }], guard := some (9, true) }) (v := undef) rfl (by kernel_rfl) (by kernel_rfl) (by kernel_rfl) (fun _ _ _ h => h) (Or.inr ⟨by rfl, rfl⟩) hn ?_
            try simp only [Act.put, List.setIfInBounds_toArray, List.set_cons_zero, List.set_cons_succ]
            refine wpAnyH_take (i := 13) (oi := { dst := some 70, op := Op.move (Operand.tmp 69), type := 4, pos := "instr.go:64", after := #[{ on := 12, ground := Ground.data }, { on := 9, ground := Ground.chain }, { on := 9, ground := Ground.guard }], guard := some (9, true) }) (v := undef) rfl (by kernel_rfl) (by kernel_rfl) (by kernel_rfl) (fun _ _ _ h => h) (Or.inr ⟨by rfl, rfl⟩) hn ?_
            try simp only [Act.put, List.setIfInBounds_toArray, List.set_cons_zero, List.set_cons_succ]
            refine wpAnyH_take (i := 14) (oi := { dst := some 71, op := Op.fieldAddr 34 (Operand.tmp 1) 6, type := 0, pos := "instr.go:64", after := #[{ on := 13, ground := Ground.guard }], guard := some (13, false) }) (v := undef) rfl (by kernel_rfl) (by kernel_rfl) (by kernel_rfl) (fun _ _ _ h => h) (Or.inr ⟨by rfl, rfl⟩) hn ?_
            try simp only [Act.put, List.setIfInBounds_toArray, List.set_cons_zero, List.set_cons_succ]
            refine wpAnyH_take (i := 15) (oi := { dst := some 72, op := Op.load 9 (Operand.tmp 71), type := 9, pos := "instr.go:64", after := #[{ on := 14, ground := Ground.data }, { on := 13, ground := Ground.guard }], guard := some (13, false) }) (v := undef) rfl (by kernel_rfl) (by kernel_rfl) (by kernel_rfl) (fun _ _ _ h => h) (Or.inr ⟨by rfl, rfl⟩) hn ?_
            try simp only [Act.put, List.setIfInBounds_toArray, List.set_cons_zero, List.set_cons_succ]
            refine wpAnyH_take (i := 16) (oi := { dst := some 73, op := Op.call { callee := Callee.value (Operand.func 33), args := #[Operand.tmp 72], argTypes := #[9] }, type := 4, pos := "instr.go:64", after := #[{ on := 15, ground := Ground.data }, { on := 13, ground := Ground.chain }, { on := 13, ground := Ground.guard }], guard := some (13, false) }) (v := undef) rfl (by kernel_rfl) (by kernel_rfl) (by kernel_rfl) (fun _ _ _ h => h) (Or.inr ⟨by rfl, rfl⟩) hn ?_
            try simp only [Act.put, List.setIfInBounds_toArray, List.set_cons_zero, List.set_cons_succ]
            refine wpAnyH_take (i := 17) (oi := { dst := some 74, op := Op.pick (Operand.tmp 70) (Operand.const (Value.bool true)) (Operand.tmp 73), type := 4, pos := "instr.go:64", after := #[{ on := 13, ground := Ground.data }, { on := 16, ground := Ground.data }, { on := 9, ground := Ground.guard }], guard := some (9, true) }) (v := undef) rfl (by kernel_rfl) (by kernel_rfl) (by kernel_rfl) (fun _ _ _ h => h) (Or.inr ⟨by rfl, rfl⟩) hn ?_
            try simp only [Act.put, List.setIfInBounds_toArray, List.set_cons_zero, List.set_cons_succ]
            refine wpAnyH_take (i := 18) (oi := { dst := some 75, op := Op.pick (Operand.tmp 66) (Operand.tmp 74) (Operand.const (Value.bool false)), type := 4, pos := "instr.go:64", after := #[{ on := 9, ground := Ground.data }, { on := 17, ground := Ground.data }], guard := none }) (v := ?v43x16) rfl (by kernel_rfl) (by kernel_rfl) (by kernel_rfl) (fun _ _ _ h => h) (Or.inl ⟨by rfl, ?y43x16⟩) hn ?r43x16
            case y43x16 => (intro wS hS; (try go_simp); (try with_reducible rfl))
            try simp only [Act.put, List.setIfInBounds_toArray, List.set_cons_zero, List.set_cons_succ]
            refine wpAnyH_take (i := 19) (oi := { dst := some 4, op := Op.assign (Operand.tmp 75), type := 4, pos := "instr.go:64", after := #[{ on := 18, ground := Ground.data }, { on := 16, ground := Ground.chain }, { on := 0, ground := Ground.phase }, { on := 1, ground := Ground.phase }, { on := 2, ground := Ground.phase }, { on := 3, ground := Ground.phase }, { on := 4, ground := Ground.phase }, { on := 5, ground := Ground.phase }, { on := 6, ground := Ground.phase }, { on := 7, ground := Ground.phase }, { on := 8, ground := Ground.phase }, { on := 9, ground := Ground.phase }, { on := 10, ground := Ground.phase }, { on := 11, ground := Ground.phase }, { on := 12, ground := Ground.phase }, { on := 13, ground := Ground.phase }, { on := 14, ground := Ground.phase }, { on := 15, ground := Ground.phase }, { on := 16, ground := Ground.phase }, { on := 17, ground := Ground.phase }, { on := 18, ground := Ground.phase }], guard := none }) (v := ?v43x17) rfl (by kernel_rfl) (by kernel_rfl) (by kernel_rfl) (fun _ _ _ h => h) (Or.inl ⟨by rfl, ?y43x17⟩) hn ?r43x17
            case y43x17 => (intro wS hS; (try go_simp); (try with_reducible rfl))
            try simp only [Act.put, List.setIfInBounds_toArray, List.set_cons_zero, List.set_cons_succ]
            refine wpAnyH_take (i := 20) (oi := { dst := some 76, op := Op.fieldAddr 34 (Operand.tmp 1) 6, type := 0, pos := "instr.go:64", after := #[{ on := 0, ground := Ground.phase }, { on := 1, ground := Ground.phase }, { on := 2, ground := Ground.phase }, { on := 3, ground := Ground.phase }, { on := 4, ground := Ground.phase }, { on := 5, ground := Ground.phase }, { on := 6, ground := Ground.phase }, { on := 7, ground := Ground.phase }, { on := 8, ground := Ground.phase }, { on := 9, ground := Ground.phase }, { on := 10, ground := Ground.phase }, { on := 11, ground := Ground.phase }, { on := 12, ground := Ground.phase }, { on := 13, ground := Ground.phase }, { on := 14, ground := Ground.phase }, { on := 15, ground := Ground.phase }, { on := 16, ground := Ground.phase }, { on := 17, ground := Ground.phase }, { on := 18, ground := Ground.phase }, { on := 19, ground := Ground.phase }], guard := none }) (v := ?v43x18) rfl (by kernel_rfl) (by kernel_rfl) (by kernel_rfl) (fun _ _ _ h => h) (Or.inl ⟨by rfl, ?y43x18⟩) hn ?r43x18
            case y43x18 => (intro wS hS; (try go_simp); (try with_reducible rfl))
            try simp only [Act.put, List.setIfInBounds_toArray, List.set_cons_zero, List.set_cons_succ]
            refine wpAnyH_ready (rs := [21]) (by kernel_rfl) (by simp) ?_
            refine AllReadyH.cons (o := { dst := none, op := Op.store 9 (Operand.tmp 76) (Operand.const (Value.string { data := #[] })), type := 0, pos := "instr.go:64", after := #[{ on := 20, ground := Ground.data }, { on := 19, ground := Ground.chain }, { on := 0, ground := Ground.phase }, { on := 1, ground := Ground.phase }, { on := 2, ground := Ground.phase }, { on := 3, ground := Ground.phase }, { on := 4, ground := Ground.phase }, { on := 5, ground := Ground.phase }, { on := 6, ground := Ground.phase }, { on := 7, ground := Ground.phase }, { on := 8, ground := Ground.phase }, { on := 9, ground := Ground.phase }, { on := 10, ground := Ground.phase }, { on := 11, ground := Ground.phase }, { on := 12, ground := Ground.phase }, { on := 13, ground := Ground.phase }, { on := 14, ground := Ground.phase }, { on := 15, ground := Ground.phase }, { on := 16, ground := Ground.phase }, { on := 17, ground := Ground.phase }, { on := 18, ground := Ground.phase }, { on := 19, ground := Ground.phase }], guard := none }) rfl (fun K hK => ?_) AllReadyH.nil
            have z9 := cellAt hbx 9 (v := .string raw) rfl
            have f9 := frozenAt hbx 9
            go_simp
            have hbx := hp_set hbx 9 (.string ⟨#[]⟩)
            have hn : (fun w' => New w w' ∧ w'.heap[wa.heap.size]? = some (.cells #[.int .i64 12, .int .i64 ln] 66)) (wr.setCell ⟨w.heap.size, 9, none⟩ (.string ⟨#[]⟩)) := ⟨setNew hn.1 9 _, hp_other hn.2 HNE.out⟩
            refine hK.out _ _ (by first | exact hn | exact Upd.alloc hn _) (fun hn => ?_)
            clear hK K
            try simp only [Act.put, List.setIfInBounds_toArray, List.set_cons_zero, List.set_cons_succ]
            refine wpAnyH_done (by kernel_rfl) ?_ _
            refine NoPanic.normal ?_
            go_wp2_with fail
            go_meet
            exact ⟨_, (.slice al li.length cl), (.slice au (lb ty).length cu), rfl, (by have h := has_ne HBH.out; simp [ownQ, h]), hbx, hn.1, HL.out.new hn.1, HU.out.new hn.1⟩
          refine AllReadyH.cons (o := { dst := some 62, op := Op.load 9 (Operand.tmp 61), type := 9, pos := "instr.go:64", after := #[{ on := 4, ground := Ground.data }, { on := 1, ground := Ground.guard }], guard := some (1, true) }) rfl (fun K hK => ?_) AllReadyH.nil
          have z9 := cellAt hbx 9 (v := .string raw) rfl
          go_simp
          refine hK.out _ _ (by first | exact hn | exact Upd.alloc hn _) (fun hn => ?_)
          clear hK K
          try simp only [Act.put, List.setIfInBounds_toArray, List.set_cons_zero, List.set_cons_succ]
          refine wpAnyH_take (i := 6) (oi := { dst := some 63, op := Op.call { callee := Callee.builtin Builtin.len, args := #[Operand.tmp 62], argTypes := #[9] }, type := 3, pos := "instr.go:64", after := #[{ on := 5, ground := Ground.data }, { on := 1, ground := Ground.guard }], guard := some (1, true) }) (v := ?v43x19) rfl (by kernel_rfl) (by kernel_rfl) (by kernel_rfl) (fun _ _ _ h => h) (Or.inl ⟨by rfl, ?y43x19⟩) hn ?r43x19
          case y43x19 => (intro wS hS; (try go_simp); (try with_reducible rfl))
          try simp only [Act.put, List.setIfInBounds_toArray, List.set_cons_zero, List.set_cons_succ]
          refine wpAnyH_ready (rs := [3]) (by kernel_rfl) (by simp) ?_
          refine AllReadyH.cons (o := { dst := some 60, op := Op.call { callee := Callee.value (Operand.func 31), args := #[Operand.tmp 59], argTypes := #[66] }, type := 70, pos := "instr.go:64", after := #[{ on := 2, ground := Ground.data }, { on := 1, ground := Ground.chain }, { on := 1, ground := Ground.guard }], guard := some (1, true) }) rfl (fun K hK => ?_) AllReadyH.nil
          go_simp
          refine (HS2.out _ _).mono ?_
          rintro e wq ⟨rfl, hnq⟩
          go_wp2_with fail
          have hbx := hp1 hbx hnq
          have hn : (fun w' => New w w' ∧ w'.heap[wa.heap.size]? = some (.cells #[.int .i64 12, .int .i64 ln] 66)) wq := ⟨New.trans hn.1 hnq, hp1 hn.2 hnq⟩
          refine hK.out _ _ (by first | exact hn | exact Upd.alloc hn _) (fun hn => ?_)
          clear hK K
          try simp only [Act.put, List.setIfInBounds_toArray, List.set_cons_zero, List.set_cons_succ]
          refine wpAnyH_ready (rs := [7]) (by kernel_rfl) (by simp) ?_
          refine AllReadyH.cons (o := { dst := some 64, op := Op.call { callee := Callee.value (Operand.func 32), args := #[Operand.tmp 60, Operand.tmp 63], argTypes := #[70, 3] }, type := 4, pos := "instr.go:64", after := #[{ on := 3, ground := Ground.data }, { on := 6, ground := Ground.data }, { on := 3, ground := Ground.chain }, { on := 1, ground := Ground.guard }], guard := some (1, true) }) rfl (fun K hK => ?_) AllReadyH.nil
          go_simp
          refine (HH2.out _).mono ?_
          rintro e wr ⟨rfl, hnq⟩
          go_wp2_with fail
          have hbx := hp1 hbx hnq
          have hn : (fun w' => New w w' ∧ w'.heap[wa.heap.size]? = some (.cells #[.int .i64 12, .int .i64 ln] 66)) wr := ⟨New.trans hn.1 hnq, hp1 hn.2 hnq⟩
          refine hK.out _ _ (by first | exact hn | exact Upd.alloc hn _) (fun hn => ?_)
          clear hK K
          try simp only [Act.put, List.setIfInBounds_toArray, List.set_cons_zero, List.set_cons_succ]
          refine wpAnyH_take (i := 8) (oi := { dst := some 65, op := Op.pick (Operand.tmp 58) (Operand.tmp 64) (Operand.const (Value.bool false)), type := 4, pos := "instr.go:64", after := #[{ on := 1, ground := Ground.data }, { on := 7, ground := Ground.data }], guard := none }) (v := ?v43x20) rfl (by kernel_rfl) (by kernel_rfl) (by kernel_rfl) (fun _ _ _ h => h) (Or.inl ⟨by rfl, ?y43x20⟩) hn ?r43x20
          case y43x20 => (intro wS hS; (try go_simp); (try with_reducible rfl))
          try simp only [Act.put, List.setIfInBounds_toArray, List.set_cons_zero, List.set_cons_succ]
          refine wpAnyH_take (i := 9) (oi := { dst := some 66, op := Op.move (Operand.tmp 65), type := 4, pos := "instr.go:64", after := #[{ on := 8, ground := Ground.data }, { on := 7, ground := Ground.chain }], guard := none }) (v := ?v43x21) rfl (by kernel_rfl) (by kernel_rfl) (by kernel_rfl) (fun _ _ _ h => h) (Or.inl ⟨by rfl, ?y43x21⟩) hn ?r43x21
          case y43x21 => (intro wS hS; (try go_simp); (try with_reducible rfl))
          try simp only [Act.put, List.setIfInBounds_toArray, List.set_cons_zero, List.set_cons_succ]
          refine wpAnyH_take (i := 10) (oi := { dst := some 67, op := Op.fieldAddr 66 (Operand.tmp 3) 0, type := 0, pos := "instr.go:64", after := #[{ on := 9, ground := Ground.guard }], guard := some (9, true) }) (v := undef) rfl (by kernel_rfl) (by kernel_rfl) (by kernel_rfl) (fun _ _ _ h => h) (Or.inr ⟨by rfl, rfl⟩) hn ?_
          try simp only [Act.put, List.setIfInBounds_toArray, List.set_cons_zero, List.set_cons_succ]
          refine wpAnyH_take (i := 11) (oi := { dst := some 68, op := Op.load 3 (Operand.tmp 67), type := 3, pos := "instr.go:64", after := #[{ on := 10, ground := Ground.data }, { on := 9, ground := Ground.guard }], guard := some (9, true) }) (v := undef) rfl (by kernel_rfl) (by kernel_rfl) (by kernel_rfl) (fun _ _ _ h => h) (Or.inr ⟨by rfl, rfl⟩) hn ?_
          try simp only [Act.put, List.setIfInBounds_toArray, List.set_cons_zero, List.set_cons_succ]
          refine wpAnyH_take (i := 12) (oi := { dst := some 69, op := Op.binOp BinOp.neq 3 (Operand.tmp 68) (Operand.const (Value.int IntKind.i64 14)) 3, type := 4, pos := "instr.go:64", after := #[{ on := 11, ground := Ground.data }, { on := 9, ground := Ground.guard }], guard := some (9, true) }) (v := undef) rfl (by kernel_rfl) (by kernel_rfl) (by kernel_rfl) (fun _ _ _ h => h) (Or.inr ⟨by rfl, rfl⟩) hn ?_
          try simp only [Act.put, List.setIfInBounds_toArray, List.set_cons_zero, List.set_cons_succ]
          refine wpAnyH_take (i := 13) (oi := { dst := some 70, op := Op.move (Operand.tmp 69), type := 4, pos := "instr.go:64", after := #[{ on := 12, ground := Ground.data }, { on := 9, ground := Ground.chain }, { on := 9, ground := Ground.guard }], guard := some (9, true) }) (v := undef) rfl (by kernel_rfl) (by kernel_rfl) (by kernel_rfl) (fun _ _ _ h => h) (Or.inr ⟨by rfl, rfl⟩) hn ?_
          try simp only [Act.put, List.setIfInBounds_toArray, List.set_cons_zero, List.set_cons_succ]
          refine wpAnyH_take (i := 14) (oi := { dst := some 71, op := Op.fieldAddr 34 (Operand.tmp 1) 6, type := 0, pos := "instr.go:64", after := #[{ on := 13, ground := Ground.guard }], guard := some (13, false) }) (v := undef) rfl (by kernel_rfl) (by kernel_rfl) (by kernel_rfl) (fun _ _ _ h => h) (Or.inr ⟨by rfl, rfl⟩) hn ?_
          try simp only [Act.put, List.setIfInBounds_toArray, List.set_cons_zero, List.set_cons_succ]
          refine wpAnyH_take (i := 15) (oi := { dst := some 72, op := Op.load 9 (Operand.tmp 71), type := 9, pos := "instr.go:64", after := #[{ on := 14, ground := Ground.data }, { on := 13, ground := Ground.guard }], guard := some (13, false) }) (v := undef) rfl (by kernel_rfl) (by kernel_rfl) (by kernel_rfl) (fun _ _ _ h => h) (Or.inr ⟨by rfl, rfl⟩) hn ?_
          try simp only [Act.put, List.setIfInBounds_toArray, List.set_cons_zero, List.set_cons_succ]
          refine wpAnyH_take (i := 16) (oi := { dst := some 73, op := Op.call { callee := Callee.value (Operand.func 33), args := #[Operand.tmp 72], argTypes := #[9] }, type := 4, pos := "instr.go:64", after := #[{ on := 15, ground := Ground.data }, { on := 13, ground := Ground.chain }, { on := 13, ground := Ground.guard }], guard := some (13, false) }) (v := undef) rfl (by kernel_rfl) (by kernel_rfl) (by kernel_rfl) (fun _ _ _ h => h) (Or.inr ⟨by rfl, rfl⟩) hn ?_
          try simp only [Act.put, List.setIfInBounds_toArray, List.set_cons_zero, List.set_cons_succ]
          refine wpAnyH_take (i := 17) (oi := { dst := some 74, op := Op.pick (Operand.tmp 70) (Operand.const (Value.bool true)) (Operand.tmp 73), type := 4, pos := "instr.go:64", after := #[{ on := 13, ground := Ground.data }, { on := 16, ground := Ground.data }, { on := 9, ground := Ground.guard }], guard := some (9, true) }) (v := undef) rfl (by kernel_rfl) (by kernel_rfl) (by kernel_rfl) (fun _ _ _ h => h) (Or.inr ⟨by rfl, rfl⟩) hn ?_
          try simp only [Act.put, List.setIfInBounds_toArray, List.set_cons_zero, List.set_cons_succ]
          refine wpAnyH_take (i := 18) (oi := { dst := some 75, op := Op.pick (Operand.tmp 66) (Operand.tmp 74) (Operand.const (Value.bool false)), type := 4, pos := "instr.go:64", after := #[{ on := 9, ground := Ground.data }, { on := 17, ground := Ground.data }], guard := none }) (v := ?v43x30) rfl (by kernel_rfl) (by kernel_rfl) (by kernel_rfl) (fun _ _ _ h => h) (Or.inl ⟨by rfl, ?y43x30⟩) hn ?r43x30
          case y43x30 => (intro wS hS; (try go_simp); (try with_reducible rfl))
          try simp only [Act.put, List.setIfInBounds_toArray, List.set_cons_zero, List.set_cons_succ]
          refine wpAnyH_take (i := 19) (oi := { dst := some 4, op := Op.assign (Operand.tmp 75), type := 4, pos := "instr.go:64", after := #[{ on := 18, ground := Ground.data }, { on := 16, ground := Ground.chain }, { on := 0, ground := Ground.phase }, { on := 1, ground := Ground.phase }, { on := 2, ground := Ground.phase }, { on := 3, ground := Ground.phase }, { on := 4, ground := Ground.phase }, { on := 5, ground := Ground.phase }, { on := 6, ground := Ground.phase }, { on := 7, ground := Ground.phase }, { on := 8, ground := Ground.phase }, { on := 9, ground := Ground.phase }, { on := 10, ground := Ground.phase }, { on := 11, ground := Ground.phase }, { on := 12, ground := Ground.phase }, { on := 13, ground := Ground.phase }, { on := 14, ground := Ground.phase }, { on := 15, ground := Ground.phase }, { on := 16, ground := Ground.phase }, { on := 17, ground := Ground.phase }, { on := 18, ground := Ground.phase }], guard := none }) (v := ?v43x31) rfl (by kernel_rfl) (by kernel_rfl) (by kernel_rfl) (fun _ _ _ h => h) (Or.inl ⟨by rfl, ?y43x31⟩) hn ?r43x31
          case y43x31 => (intro wS hS; (try go_simp); (try with_reducible rfl))
          try simp only [Act.put, List.setIfInBounds_toArray, List.set_cons_zero, List.set_cons_succ]
          refine wpAnyH_take (i := 20) (oi := { dst := some 76, op := Op.fieldAddr 34 (Operand.tmp 1) 6, type := 0, pos := "instr.go:64", after := #[{ on := 0, ground := Ground.phase }, { on := 1, ground := Ground.phase }, { on := 2, ground := Ground.phase }, { on := 3, ground := Ground.phase }, { on := 4, ground := Ground.phase }, { on := 5, ground := Ground.phase }, { on := 6, ground := Ground.phase }, { on := 7, ground := Ground.phase }, { on := 8, ground := Ground.phase }, { on := 9, ground := Ground.phase }, { on := 10, ground := Ground.phase }, { on := 11, ground := Ground.phase }, { on := 12, ground := Ground.phase }, { on := 13, ground := Ground.phase }, { on := 14, ground := Ground.phase }, { on := 15, ground := Ground.phase }, { on := 16, ground := Ground.phase }, { on := 17, ground := Ground.phase }, { on := 18, ground := Ground.phase }, { on := 19, ground := Ground.phase }], guard := none }) (v := ?v43x32) rfl (by kernel_rfl) (by kernel_rfl) (by kernel_rfl) (fun _ _ _ h => h) (Or.inl ⟨by rfl, ?y43x32⟩) hn ?r43x32
          case y43x32 => (intro wS hS; (try go_simp); (try with_reducible rfl))
          try simp only [Act.put, List.setIfInBounds_toArray, List.set_cons_zero, List.set_cons_succ]
          refine wpAnyH_ready (rs := [21]) (by kernel_rfl) (by simp) ?_
          refine AllReadyH.cons (o := { dst := none, op := Op.store 9 (Operand.tmp 76) (Operand.const (Value.string { data := #[] })), type := 0, pos := "instr.go:64", after := #[{ on := 20, ground := Ground.data }, { on := 19, ground := Ground.chain }, { on := 0, ground := Ground.phase }, { on := 1, ground := Ground.phase }, { on := 2, ground := Ground.phase }, { on := 3, ground := Ground.phase }, { on := 4, ground := Ground.phase }, { on := 5, ground := Ground.phase }, { on := 6, ground := Ground.phase }, { on := 7, ground := Ground.phase }, { on := 8, ground := Ground.phase }, { on := 9, ground := Ground.phase }, { on := 10, ground := Ground.phase }, { on := 11, ground := Ground.phase }, { on := 12, ground := Ground.phase }, { on := 13, ground := Ground.phase }, { on := 14, ground := Ground.phase }, { on := 15, ground := Ground.phase }, { on := 16, ground := Ground.phase }, { on := 17, ground := Ground.phase }, { on := 18, ground := Ground.phase }, { on := 19, ground := Ground.phase }], guard := none }) rfl (fun K hK => ?_) AllReadyH.nil
          have z9 := cellAt hbx 9 (v := .string raw) rfl
          have f9 := frozenAt hbx 9
          go_simp
          have hbx := hp_set hbx 9 (.string ⟨#[]⟩)
          have hn : (fun w' => New w w' ∧ w'.heap[wa.heap.size]? = some (.cells #[.int .i64 12, .int .i64 ln] 66)) (wr.setCell ⟨w.heap.size, 9, none⟩ (.string ⟨#[]⟩)) := ⟨setNew hn.1 9 _, hp_other hn.2 HNE.out⟩
          refine hK.out _ _ (by first | exact hn | exact Upd.alloc hn _) (fun hn => ?_)
          clear hK K
          try simp only [Act.put, List.setIfInBounds_toArray, List.set_cons_zero, List.set_cons_succ]
          refine wpAnyH_done (by kernel_rfl) ?_ _
          refine NoPanic.normal ?_
          go_wp2_with fail
          go_meet
          exact ⟨_, (.slice al li.length cl), (.slice au (lb ty).length cu), rfl, (by have h := has_ne HBH.out; simp [ownQ, h]), hbx, hn.1, HL.out.new hn.1, HU.out.new hn.1⟩
      · -- 13
        have HS2 := hid (fun l w => HSP.out 13 l w)
        rw [spanV_13] at HS2
        have HH2 := hid (fun w => HHA.out 16 16 raw.size w)
        obtain ⟨bh, hbh⟩ : ∃ bh, Span.has 16 16 raw.size = bh := ⟨_, rfl⟩
        rw [hbh] at HH2
        have y0 : wb.cell? ⟨wa.heap.size, 0, none⟩ = some (.int .i64 13) := cellAt HI.out 0 rfl
        have y1 : wb.cell? ⟨wa.heap.size, 1, none⟩ = some (.int .i64 ln) := cellAt HI.out 1 rfl
        have z9 : wb.cell? ⟨w.heap.size, 9, none⟩ = some (.string raw) := cellAt HB.out 9 rfl
        have f9 : wb.frozen? ⟨w.heap.size, 9, none⟩ = false := frozenAt HB.out 9
        have HBH := hid hbh
        clear hbh
        cases bh with
        | true =>
          have hn : (fun w' => New w w' ∧ w'.heap[wa.heap.size]? = some (.cells #[.int .i64 13, .int .i64 ln] 66)) wb.drew := ⟨HN.out.drew, HI.out⟩
          have hbx : Box wb.drew w.heap.size ⟨p, c, k, t, i, x, y, li, n, raw, lane, ty⟩ (.slice al li.length cl) (.slice au (lb ty).length cu) := HB.out
          clear y0 y1 z9 f9
          go_wp2_with fail
          refine wp_region_noPanic ?_
          refine wp_region_held_drew (S := (fun w' => New w w' ∧ w'.heap[wa.heap.size]? = some (.cells #[.int .i64 13, .int .i64 ln] 66))) (by kernel_rfl) (by first | exact hn | exact (Upd.refl _ _).drew | exact Upd.drew (by assumption)) (fun hn => ?_)
          generalize wb.drew = wd at *
          refine wpAnyH_take (i := 0) (oi := { dst := some 57, op := Op.move (Operand.tmp 4), type := 4, pos := "instr.go:64", after := #[], guard := none }) (v := ?v44x1) rfl (by kernel_rfl) (by kernel_rfl) (by kernel_rfl) (fun _ _ _ h => h) (Or.inl ⟨by rfl, ?y44x1⟩) hn ?r44x1
          case y44x1 => (intro wS hS; (try go_simp); (try with_reducible rfl))
          try simp only [Act.put, List.setIfInBounds_toArray, List.set_cons_zero, List.set_cons_succ]
          refine wpAnyH_take (i := 1) (oi := { dst := some 58, op := Op.move (Operand.tmp 57), type := 4, pos := "instr.go:64", after := #[{ on := 0, ground := Ground.data }], guard := none }) (v := ?v44x2) rfl (by kernel_rfl) (by kernel_rfl) (by kernel_rfl) (fun _ _ _ h => h) (Or.inl ⟨by rfl, ?y44x2⟩) hn ?r44x2
          case y44x2 => (intro wS hS; (try go_simp); (try with_reducible rfl))
          try simp only [Act.put, List.setIfInBounds_toArray, List.set_cons_zero, List.set_cons_succ]
          refine wpAnyH_take (i := 2) (oi := { dst := some 59, op := Op.load 66 (Operand.tmp 3), type := 66, pos := "instr.go:64", after := #[{ on := 1, ground := Ground.guard }], guard := some (1, true) }) (v := ?v44x3) rfl (by kernel_rfl) (by kernel_rfl) (by kernel_rfl) (fun _ _ _ h => h) (Or.inl ⟨by rfl, ?y44x3⟩) hn ?r44x3
          case y44x3 => (intro wS hS; have c0 := cellAt hS.2 0 rfl; have c1 := cellAt hS.2 1 rfl; (try go_simp); (try with_reducible rfl))
          try simp only [Act.put, List.setIfInBounds_toArray, List.set_cons_zero, List.set_cons_succ]
          refine wpAnyH_take (i := 4) (oi := { dst := some 61, op := Op.fieldAddr 34 (Operand.tmp 1) 6, type := 0, pos := "instr.go:64", after := #[{ on := 1, ground := Ground.guard }], guard := some (1, true) }) (v := ?v44x4) rfl (by kernel_rfl) (by kernel_rfl) (by kernel_rfl) (fun _ _ _ h => h) (Or.inl ⟨by rfl, ?y44x4⟩) hn ?r44x4
          case y44x4 => (intro wS hS; (try go_simp); (try with_reducible rfl))
          try simp only [Act.put, List.setIfInBounds_toArray, List.set_cons_zero, List.set_cons_succ]
          refine wpAnyH_ready (rs := [3, 5]) (by kernel_rfl) (by simp) ?_
          refine AllReadyH.cons (o := { dst := some 60, op := Op.call { callee := Callee.value (Operand.func 31), args := #[Operand.tmp 59], argTypes := #[66] }, type := 70, pos := "instr.go:64", after := #[{ on := 2, ground := Ground.data }, { on := 1, ground := Ground.chain }, { on := 1, ground := Ground.guard }], guard := some (1, true) }) rfl (fun K hK => ?_) ?_
          · skip
            go_simp
            refine (HS2.out _ _).mono ?_
            rintro e wq ⟨rfl, hnq⟩
            go_wp2_with fail
            have hbx := hp1 hbx hnq
            have hn : (fun w' => New w w' ∧ w'.heap[wa.heap.size]? = some (.cells #[.int .i64 13, .int .i64 ln] 66)) wq := ⟨New.trans hn.1 hnq, hp1 hn.2 hnq⟩
            refine hK.out _ _ (by first | exact hn | exact Upd.alloc hn _) (fun hn => ?_)
            clear hK K
            try simp only [Act.put, List.setIfInBounds_toArray, List.set_cons_zero, List.set_cons_succ]
            refine wpAnyH_ready (rs := [5]) (by kernel_rfl) (by simp) ?_
            refine AllReadyH.cons (o := { dst := some 62, op := Op.load 9 (Operand.tmp 61), type := 9, pos := "instr.go:64", after := #[{ on := 4, ground := Ground.data }, { on := 1, ground := Ground.guard }], guard := some (1, true) }) rfl (fun K hK => ?_) AllReadyH.nil
            have z9 := cellAt hbx 9 (v := .string raw) rfl
            go_simp
            refine hK.out _ _ (by first | exact hn | exact Upd.alloc hn _) (fun hn => ?_)
            clear hK K
            try simp only [Act.put, List.setIfInBounds_toArray, List.set_cons_zero, List.set_cons_succ]
            refine wpAnyH_take (i := 6) (oi := { dst := some 63, op := Op.call { callee := Callee.builtin Builtin.len, args := #[Operand.tmp 62], argTypes := #[9] }, type := 3, pos := "instr.go:64", after := #[{ on := 5, ground := Ground.data }, { on := 1, ground := Ground.guard }], guard := some (1, true) }) (v := ?v44x5) rfl (by kernel_rfl) (by kernel_rfl) (by kernel_rfl) (fun _ _ _ h => h) (Or.inl ⟨by rfl, ?y44x5⟩) hn ?r44x5
            case y44x5 => (intro wS hS; (try go_simp); (try with_reducible rfl))
            try simp only [Act.put, List.setIfInBounds_toArray, List.set_cons_zero, List.set_cons_succ]
            refine wpAnyH_ready (rs := [7]) (by kernel_rfl) (by simp) ?_
            refine AllReadyH.cons (o := { dst := some 64, op := Op.call { callee := Callee.value (Operand.func 32), args := #[Operand.tmp 60, Operand.tmp 63], argTypes := #[70, 3] }, type := 4, pos := "instr.go:64", after := #[{ on := 3, ground := Ground.data }, { on := 6, ground := Ground.data }, { on := 3, ground := Ground.chain }, { on := 1, ground := Ground.guard }], guard := some (1, true) }) rfl (fun K hK => ?_) AllReadyH.nil
            go_simp
            refine (HH2.out _).mono ?_
            rintro e wr ⟨rfl, hnq⟩
            go_wp2_with fail
            have hbx := hp1 hbx hnq
            have hn : (fun w' => New w w' ∧ w'.heap[wa.heap.size]? = some (.cells #[.int .i64 13, .int .i64 ln] 66)) wr := ⟨New.trans hn.1 hnq, hp1 hn.2 hnq⟩
            refine hK.out _ _ (by first | exact hn | exact Upd.alloc hn _) (fun hn => ?_)
            clear hK K
            try simp only [Act.put, List.setIfInBounds_toArray, List.set_cons_zero, List.set_cons_succ]
            refine wpAnyH_take (i := 8) (oi := { dst := some 65, op := Op.pick (Operand.tmp 58) (Operand.tmp 64) (Operand.const (Value.bool false)), type := 4, pos := "instr.go:64", after := #[{ on := 1, ground := Ground.data }, { on := 7, ground := Ground.data }], guard := none }) (v := ?v44x6) rfl (by kernel_rfl) (by kernel_rfl) (by kernel_rfl) (fun _ _ _ h => h) (Or.inl ⟨by rfl, ?y44x6⟩) hn ?r44x6
            case y44x6 => (intro wS hS; (try go_simp); (try with_reducible rfl))
            try simp only [Act.put, List.setIfInBounds_toArray, List.set_cons_zero, List.set_cons_succ]
            refine wpAnyH_take (i := 9) (oi := { dst := some 66, op := Op.move (Operand.tmp 65), type := 4, pos := "instr.go:64", after := #[{ on := 8, ground := Ground.data }, { on := 7, ground := Ground.chain }], guard := none }) (v := ?v44x7) rfl (by kernel_rfl) (by kernel_rfl) (by kernel_rfl) (fun _ _ _ h => h) (Or.inl ⟨by rfl, ?y44x7⟩) hn ?r44x7
            case y44x7 => (intro wS hS; (try go_simp); (try with_reducible rfl))
            try simp only [Act.put, List.setIfInBounds_toArray, List.set_cons_zero, List.set_cons_succ]
            refine wpAnyH_take (i := 10) (oi := { dst := some 67, op := Op.fieldAddr 66 (Operand.tmp 3) 0, type := 0, pos := "instr.go:64", after := #[{ on := 9, ground := Ground.guard }], guard := some (9, true) }) (v := ?v44x8) rfl (by kernel_rfl) (by kernel_rfl) (by kernel_rfl) (fun _ _ _ h => h) (Or.inl ⟨by rfl, ?y44x8⟩) hn ?r44x8
            case y44x8 => (intro wS hS; (try go_simp); (try with_reducible rfl))
            try simp only [Act.put, List.setIfInBounds_toArray, List.set_cons_zero, List.set_cons_succ]
            refine wpAnyH_take (i := 11) (oi := { dst := some 68, op := Op.load 3 (Operand.tmp 67), type := 3, pos := "instr.go:64", after := #[{ on := 10, ground := Ground.data }, { on := 9, ground := Ground.guard }], guard := some (9, true) }) (v := ?v44x9) rfl (by kernel_rfl) (by kernel_rfl) (by kernel_rfl) (fun _ _ _ h => h) (Or.inl ⟨by rfl, ?y44x9⟩) hn ?r44x9
            case y44x9 => (intro wS hS; have c0 := cellAt hS.2 0 rfl; (try go_simp); (try with_reducible rfl))
            try simp only [Act.put, List.setIfInBounds_toArray, List.set_cons_zero, List.set_cons_succ]
            refine wpAnyH_take (i := 12) (oi := { dst := some 69, op := Op.binOp BinOp.neq 3 (Operand.tmp 68) (Operand.const (Value.int IntKind.i64 14)) 3, type := 4, pos := "instr.go:64", after := #[{ on := 11, ground := Ground.data }, { on := 9, ground := Ground.guard }], guard := some (9, true) }) (v := ?v44x10) rfl (by kernel_rfl) (by kernel_rfl) (by kernel_rfl) (fun _ _ _ h => h) (Or.inl ⟨by rfl, ?y44x10⟩) hn ?r44x10
            case y44x10 => (intro wS hS; (try go_simp); (try with_reducible rfl))
            try simp only [Act.put, List.setIfInBounds_toArray, List.set_cons_zero, List.set_cons_succ]
            refine wpAnyH_take (i := 13) (oi := { dst := some 70, op := Op.move (Operand.tmp 69), type := 4, pos := "instr.go:64", after := #[{ on := 12, ground := Ground.data }, { on := 9, ground := Ground.chain }, { on := 9, ground := Ground.guard }], guard := some (9, true) }) (v := ?v44x11) rfl (by kernel_rfl) (by kernel_rfl) (by kernel_rfl) (fun _ _ _ h => h) (Or.inl ⟨by rfl, ?y44x11⟩) hn ?r44x11
            case y44x11 => (intro wS hS; (try go_simp); (try with_reducible rfl))
            try simp only [Act.put, List.setIfInBounds_toArray, List.set_cons_zero, List.set_cons_succ]
            refine wpAnyH_take (i := 14) (oi := { dst := some 71, op := Op.fieldAddr 34 (Operand.tmp 1) 6, type := 0, pos := "instr.go:64", after := #[{ on := 13, ground := Ground.guard }], guard := some (13, false) }) (v := undef) rfl (by kernel_rfl) (by kernel_rfl) (by kernel_rfl) (fun _ _ _ h => h) (Or.inr ⟨by rfl, rfl⟩) hn ?_
            try simp only [Act.put, List.setIfInBounds_toArray, List.set_cons_zero, List.set_cons_succ]
            refine wpAnyH_take (i := 15) (oi := { dst := some 72, op := Op.load 9 (Operand.tmp 71), type := 9, pos := "instr.go:64", after := #[{ on := 14, ground := Ground.data }, { on := 13, ground := Ground.guard }], guard := some (13, false) }) (v := undef) rfl (by kernel_rfl) (by kernel_rfl) (by kernel_rfl) (fun _ _ _ h => h) (Or.inr ⟨by rfl, rfl⟩) hn ?_
            try simp only [Act.put, List.setIfInBounds_toArray, List.set_cons_zero, List.set_cons_succ]
            refine wpAnyH_take (i := 16) (oi := { dst := some 73, op := Op.call { callee := Callee.value (Operand.func 33), args := #[Operand.tmp 72], argTypes := #[9] }, type := 4, pos := "instr.go:64", after := #[{ on := 15, ground := Ground.data }, { on := 13, ground := Ground.chain }, { on := 13, ground := Ground.guard }], guard := some (13, false) }) (v := undef) rfl (by kernel_rfl) (by kernel_rfl) (by kernel_rfl) (fun _ _ _ h => h) (Or.inr ⟨by rfl, rfl⟩) hn ?_
            try simp only [Act.put, List.setIfInBounds_toArray, List.set_cons_zero, List.set_cons_succ]
            refine wpAnyH_take (i := 17) (oi := { dst := some 74, op := Op.pick (Operand.tmp 70) (Operand.const (Value.bool true)) (Operand.tmp 73), type := 4, pos := "instr.go:64", after := #[{ on := 13, ground := Ground.data }, { on := 16, ground := Ground.data }, { on := 9, ground := Ground.guard }], guard := some (9, true) }) (v := ?v44x15) rfl (by kernel_rfl) (by kernel_rfl) (by kernel_rfl) (fun _ _ _ h => h) (Or.inl ⟨by rfl, ?y44x15⟩) hn ?r44x15
            case y44x15 => (intro wS hS; (try go_simp); (try with_reducible rfl))
            try simp only [Act.put, List.setIfInBounds_toArray, List.set_cons_zero, List.set_cons_succ]
            refine wpAnyH_take (i := 18) (oi := { dst := some 75, op := Op.pick (Operand.tmp 66) (Operand.tmp 74) (Operand.const (Value.bool false)), type := 4, pos := "instr.go:64", after := #[{ on := 9, ground := Ground.data }, { on := 17, ground := Ground.data }], guard := none }) (v := ?v44x16) rfl (by kernel_rfl) (by kernel_rfl) (by kernel_rfl) (fun _ _ _ h => h) (Or.inl ⟨by rfl, ?y44x16⟩) hn ?r44x16
            case y44x16 => (intro wS hS; (try go_simp); (try with_reducible rfl))
            try simp only [Act.put, List.setIfInBounds_toArray, List.set_cons_zero, List.set_cons_succ]
            refine wpAnyH_take (i := 19) (oi := { dst := some 4, op := Op.assign (Operand.tmp 75), type := 4, pos := "instr.go:64", after := #[{ on := 18, ground := Ground.data }, { on := 16, ground := Ground.chain }, { on := 0, ground := Ground.phase }, { on := 1, ground := Ground.phase }, { on := 2, ground := Ground.phase }, { on := 3, ground := Ground.phase }, { on := 4, ground := Ground.phase }, { on := 5, ground := Ground.phase }, { on := 6, ground := Ground.phase }, { on := 7, ground := Ground.phase }, { on := 8, ground := Ground.phase }, { on := 9, ground := Ground.phase }, { on := 10, ground := Ground.phase }, { on := 11, ground := Ground.phase }, { on := 12, ground := Ground.phase }, { on := 13, ground := Ground.phase }, { on := 14, ground := Ground.phase }, { on := 15, ground := Ground.phase }, { on := 16, ground := Ground.phase }, { on := 17, ground := Ground.phase }, { on := 18, ground := Ground.phase }], guard := none }) (v := ?v44x17) rfl (by kernel_rfl) (by kernel_rfl) (by kernel_rfl) (fun _ _ _ h => h) (Or.inl ⟨by rfl, ?y44x17⟩) hn ?r44x17
            case y44x17 => (intro wS hS; (try go_simp); (try with_reducible rfl))
            try simp only [Act.put, List.setIfInBounds_toArray, List.set_cons_zero, List.set_cons_succ]
            refine wpAnyH_take (i := 20) (oi := { dst := some 76, op := Op.fieldAddr 34 (Operand.tmp 1) 6, type := 0, pos := "instr.go:64", after := #[{ on := 0, ground := Ground.phase }, { on := 1, ground := Ground.phase }, { on := 2, ground := Ground.phase }, { on := 3, ground := Ground.phase }, { on := 4, ground := Ground.phase }, { on := 5, ground := Ground.phase }, { on := 6, ground := Ground.phase }, { on := 7, ground := Ground.phase }, { on := 8, ground := Ground.phase }, { on := 9, ground := Ground.phase }, { on := 10, ground := Ground.phase }, { on := 11, ground := Ground.phase }, { on := 12, ground := Ground.phase }, { on := 13, ground := Ground.phase }, { on := 14, ground := Ground.phase }, { on := 15, ground := Ground.phase }, { on := 16, ground := Ground.phase }, { on := 17, ground := Ground.phase }, { on := 18, ground := Ground.phase }, { on := 19, ground := Ground.phase }], guard := none }) (v := ?v44x18) rfl (by kernel_rfl) (by kernel_rfl) (by kernel_rfl) (fun _ _ _ h => h) (Or.inl ⟨by rfl, ?y44x18⟩) hn ?r44x18
            case y44x18 => (intro wS hS; (try go_simp); (try with_reducible rfl))
            try simp only [Act.put, List.setIfInBounds_toArray, List.set_cons_zero, List.set_cons_succ]
            refine wpAnyH_ready (rs := [21]) (by kernel_rfl) (by simp) ?_
            refine AllReadyH.cons (o := { dst := none, op := Op.store 9 (Operand.tmp 76) (Operand.const (Value.string { data := #[] })), type := 0, pos := "instr.go:64", after := #[{ on := 20, ground := Ground.data }, { on := 19, ground := Ground.chain }, { on := 0, ground := Ground.phase }, { on := 1, ground := Ground.phase }, { on := 2, ground := Ground.phase }, { on := 3, ground := Ground.phase }, { on := 4, ground := Ground.phase }, { on := 5, ground := Ground.phase }, { on := 6, ground := Ground.phase }, { on := 7, ground := Ground.phase }, { on := 8, ground := Ground.phase }, { on := 9, ground := Ground.phase }, { on := 10, ground := Ground.phase }, { on := 11, ground := Ground.phase }, { on := 12, ground := Ground.phase }, { on := 13, ground := Ground.phase }, { on := 14, ground := Ground.phase }, { on := 15, ground := Ground.phase }, { on := 16, ground := Ground.phase }, { on := 17, ground := Ground.phase }, { on := 18, ground := Ground.phase }, { on := 19, ground := Ground.phase }], guard := none }) rfl (fun K hK => ?_) AllReadyH.nil
            have z9 := cellAt hbx 9 (v := .string raw) rfl
            have f9 := frozenAt hbx 9
            go_simp
            have hbx := hp_set hbx 9 (.string ⟨#[]⟩)
            have hn : (fun w' => New w w' ∧ w'.heap[wa.heap.size]? = some (.cells #[.int .i64 13, .int .i64 ln] 66)) (wr.setCell ⟨w.heap.size, 9, none⟩ (.string ⟨#[]⟩)) := ⟨setNew hn.1 9 _, hp_other hn.2 HNE.out⟩
            refine hK.out _ _ (by first | exact hn | exact Upd.alloc hn _) (fun hn => ?_)
            clear hK K
            try simp only [Act.put, List.setIfInBounds_toArray, List.set_cons_zero, List.set_cons_succ]
            refine wpAnyH_done (by kernel_rfl) ?_ _
            refine NoPanic.normal ?_
            go_wp2_with fail
            go_meet
            exact ⟨_, (.slice al li.length cl), (.slice au (lb ty).length cu), rfl, (by have h : raw.size = 16 := (by have := has_eq HBH.out; omega); simp [ownQ, h]), hbx, hn.1, HL.out.new hn.1, HU.out.new hn.1⟩
          refine AllReadyH.cons (o := { dst := some 62, op := Op.load 9 (Operand.tmp 61), type := 9, pos := "instr.go:64", after := #[{ on := 4, ground := Ground.data }, { on := 1, ground := Ground.guard }], guard := some (1, true) }) rfl (fun K hK => ?_) AllReadyH.nil
          have z9 := cellAt hbx 9 (v := .string raw) rfl
          go_simp
          refine hK.out _ _ (by first | exact hn | exact Upd.alloc hn _) (fun hn => ?_)
          clear hK K
          try simp only [Act.put, List.setIfInBounds_toArray, List.set_cons_zero, List.set_cons_succ]
          refine wpAnyH_take (i := 6) (oi := { dst := some 63, op := Op.call { callee := Callee.builtin Builtin.len, args := #[Operand.tmp 62], argTypes := #[9] }, type := 3, pos := "instr.go:64", after := #[{ on := 5, ground := Ground.data }, { on := 1, ground := Ground.guard }], guard := some (1, true) }) (v := ?v44x19) rfl (by kernel_rfl) (by kernel_rfl) (by kernel_rfl) (fun _ _ _ h => h) (Or.inl ⟨by rfl, ?y44x19⟩) hn ?r44x19
          case y44x19 => (intro wS hS; (try go_simp); (try with_reducible rfl))
          try simp only [Act.put, List.setIfInBounds_toArray, List.set_cons_zero, List.set_cons_succ]
          refine wpAnyH_ready (rs := [3]) (by kernel_rfl) (by simp) ?_
          refine AllReadyH.cons (o := { dst := some 60, op := Op.call { callee := Callee.value (Operand.func 31), args := #[Operand.tmp 59], argTypes := #[66] }, type := 70, pos := "instr.go:64", after := #[{ on := 2, ground := Ground.data }, { on := 1, ground := Ground.chain }, { on := 1, ground := Ground.guard }], guard := some (1, true) }) rfl (fun K hK => ?_) AllReadyH.nil
          go_simp
          refine (HS2.out _ _).mono ?_
          rintro e wq ⟨rfl, hnq⟩
          go_wp2_with fail
          have hbx := hp1 hbx hnq
          have hn : (fun w' => New w w' ∧ w'.heap[wa.heap.size]? = some (.cells #[.int .i64 13, .int .i64 ln] 66)) wq := ⟨New.trans hn.1 hnq, hp1 hn.2 hnq⟩
          refine hK.out _ _ (by first | exact hn | exact Upd.alloc hn _) (fun hn => ?_)
          clear hK K
          try simp only [Act.put, List.setIfInBounds_toArray, List.set_cons_zero, List.set_cons_succ]
          refine wpAnyH_ready (rs := [7]) (by kernel_rfl) (by simp) ?_
          refine AllReadyH.cons (o := { dst := some 64, op := Op.call { callee := Callee.value (Operand.func 32), args := #[Operand.tmp 60, Operand.tmp 63], argTypes := #[70, 3] }, type := 4, pos := "instr.go:64", after := #[{ on := 3, ground := Ground.data }, { on := 6, ground := Ground.data }, { on := 3, ground := Ground.chain }, { on := 1, ground := Ground.guard }], guard := some (1, true) }) rfl (fun K hK => ?_) AllReadyH.nil
          go_simp
          refine (HH2.out _).mono ?_
          rintro e wr ⟨rfl, hnq⟩
          go_wp2_with fail
          have hbx := hp1 hbx hnq
          have hn : (fun w' => New w w' ∧ w'.heap[wa.heap.size]? = some (.cells #[.int .i64 13, .int .i64 ln] 66)) wr := ⟨New.trans hn.1 hnq, hp1 hn.2 hnq⟩
          refine hK.out _ _ (by first | exact hn | exact Upd.alloc hn _) (fun hn => ?_)
          clear hK K
          try simp only [Act.put, List.setIfInBounds_toArray, List.set_cons_zero, List.set_cons_succ]
          refine wpAnyH_take (i := 8) (oi := { dst := some 65, op := Op.pick (Operand.tmp 58) (Operand.tmp 64) (Operand.const (Value.bool false)), type := 4, pos := "instr.go:64", after := #[{ on := 1, ground := Ground.data }, { on := 7, ground := Ground.data }], guard := none }) (v := ?v44x20) rfl (by kernel_rfl) (by kernel_rfl) (by kernel_rfl) (fun _ _ _ h => h) (Or.inl ⟨by rfl, ?y44x20⟩) hn ?r44x20
          case y44x20 => (intro wS hS; (try go_simp); (try with_reducible rfl))
          try simp only [Act.put, List.setIfInBounds_toArray, List.set_cons_zero, List.set_cons_succ]
          refine wpAnyH_take (i := 9) (oi := { dst := some 66, op := Op.move (Operand.tmp 65), type := 4, pos := "instr.go:64", after := #[{ on := 8, ground := Ground.data }, { on := 7, ground := Ground.chain }], guard := none }) (v := ?v44x21) rfl (by kernel_rfl) (by kernel_rfl) (by kernel_rfl) (fun _ _ _ h => h) (Or.inl ⟨by rfl, ?y44x21⟩) hn ?r44x21
          case y44x21 => (intro wS hS; (try go_simp); (try with_reducible rfl))
          try simp only [Act.put, List.setIfInBounds_toArray, List.set_cons_zero, List.set_cons_succ]
          refine wpAnyH_take (i := 10) (oi := { dst := some 67, op := Op.fieldAddr 66 (Operand.tmp 3) 0, type := 0, pos := "instr.go:64", after := #[{ on := 9, ground := Ground.guard }], guard := some (9, true) }) (v := ?v44x22) rfl (by kernel_rfl) (by kernel_rfl) (by kernel_rfl) (fun _ _ _ h => h) (Or.inl ⟨by rfl, ?y44x22⟩) hn ?r44x22
          case y44x22 => (intro wS hS; (try go_simp); (try with_reducible rfl))
          try simp only [Act.put, List.setIfInBounds_toArray, List.set_cons_zero, List.set_cons_succ]
          refine wpAnyH_take (i := 11) (oi := { dst := some 68, op := Op.load 3 (Operand.tmp 67), type := 3, pos := "instr.go:64", after := #[{ on := 10, ground := Ground.data }, { on := 9, ground := Ground.guard }], guard := some (9, true) }) (v := ?v44x23) rfl (by kernel_rfl) (by kernel_rfl) (by kernel_rfl) (fun _ _ _ h => h) (Or.inl ⟨by rfl, ?y44x23⟩) hn ?r44x23
          case y44x23 => (intro wS hS; have c0 := cellAt hS.2 0 rfl; (try go_simp); (try with_reducible rfl))
          try simp only [Act.put, List.setIfInBounds_toArray, List.set_cons_zero, List.set_cons_succ]
          refine wpAnyH_take (i := 12) (oi := { dst := some 69, op := Op.binOp BinOp.neq 3 (Operand.tmp 68) (Operand.const (Value.int IntKind.i64 14)) 3, type := 4, pos := "instr.go:64", after := #[{ on := 11, ground := Ground.data }, { on := 9, ground := Ground.guard }], guard := some (9, true) }) (v := ?v44x24) rfl (by kernel_rfl) (by kernel_rfl) (by kernel_rfl) (fun _ _ _ h => h) (Or.inl ⟨by rfl, ?y44x24⟩) hn ?r44x24
          case y44x24 => (intro wS hS; (try go_simp); (try with_reducible rfl))
          try simp only [Act.put, List.setIfInBounds_toArray, List.set_cons_zero, List.set_cons_succ]
          refine wpAnyH_take (i := 13) (oi := { dst := some 70, op := Op.move (Operand.tmp 69), type := 4, pos := "instr.go:64", after := #[{ on := 12, ground := Ground.data }, { on := 9, ground := Ground.chain }, { on := 9, ground := Ground.guard }], guard := some (9, true) }) (v := ?v44x25) rfl (by kernel_rfl) (by kernel_rfl) (by kernel_rfl) (fun _ _ _ h => h) (Or.inl ⟨by rfl, ?y44x25⟩) hn ?r44x25
          case y44x25 => (intro wS hS; (try go_simp); (try with_reducible rfl))
          try simp only [Act.put, List.setIfInBounds_toArray, List.set_cons_zero, List.set_cons_succ]
          refine wpAnyH_take (i := 14) (oi := { dst := some 71, op := Op.fieldAddr 34 (Operand.tmp 1) 6, type := 0, pos := "instr.go:64", after := #[{ on := 13, ground := Ground.guard }], guard := some (13, false) }) (v := undef) rfl (by kernel_rfl) (by kernel_rfl) (by kernel_rfl) (fun _ _ _ h => h) (Or.inr ⟨by rfl, rfl⟩) hn ?_
          try simp only [Act.put, List.setIfInBounds_toArray, List.set_cons_zero, List.set_cons_succ]
          refine wpAnyH_take (i := 15) (oi := { dst := some 72, op := Op.load 9 (Operand.tmp 71), type := 9, pos := "instr.go:64", after := #[{ on := 14, ground := Ground.data }, { on := 13, ground := Ground.guard }], guard := some (13, false) }) (v := undef) rfl (by kernel_rfl) (by kernel_rfl) (by kernel_rfl) (fun _ _ _ h => h) (Or.inr ⟨by rfl, rfl⟩) hn ?_
          try simp only [Act.put, List.setIfInBounds_toArray, List.set_cons_zero, List.set_cons_succ]
          refine wpAnyH_take (i := 16) (oi := { dst := some 73, op := Op.call { callee := Callee.value (Operand.func 33), args := #[Operand.tmp 72], argTypes := #[9] }, type := 4, pos := "instr.go:64", after := #[{ on := 15, ground := Ground.data }, { on := 13, ground := Ground.chain }, { on := 13, ground := Ground.guard }], guard := some (13, false) }) (v := undef) rfl (by kernel_rfl) (by kernel_rfl) (by kernel_rfl) (fun _ _ _ h => h) (Or.inr ⟨by rfl, rfl⟩) hn ?_
          try simp only [Act.put, List.setIfInBounds_toArray, List.set_cons_zero, List.set_cons_succ]
          refine wpAnyH_take (i := 17) (oi := { dst := some 74, op := Op.pick (Operand.tmp 70) (Operand.const (Value.bool true)) (Operand.tmp 73), type := 4, pos := "instr.go:64", after := #[{ on := 13, ground := Ground.data }, { on := 16, ground := Ground.data }, { on := 9, ground := Ground.guard }], guard := some (9, true) }) (v := ?v44x29) rfl (by kernel_rfl) (by kernel_rfl) (by kernel_rfl) (fun _ _ _ h => h) (Or.inl ⟨by rfl, ?y44x29⟩) hn ?r44x29
          case y44x29 => (intro wS hS; (try go_simp); (try with_reducible rfl))
          try simp only [Act.put, List.setIfInBounds_toArray, List.set_cons_zero, List.set_cons_succ]
          refine wpAnyH_take (i := 18) (oi := { dst := some 75, op := Op.pick (Operand.tmp 66) (Operand.tmp 74) (Operand.const (Value.bool false)), type := 4, pos := "instr.go:64", after := #[{ on := 9, ground := Ground.data }, { on := 17, ground := Ground.data }], guard := none }) (v := ?v44x30) rfl (by kernel_rfl) (by kernel_rfl) (by kernel_rfl) (fun _ _ _ h => h) (Or.inl ⟨by rfl, ?y44x30⟩) hn ?r44x30
          case y44x30 => (intro wS hS; (try go_simp); (try with_reducible rfl))
          try simp only [Act.put, List.setIfInBounds_toArray, List.set_cons_zero, List.set_cons_succ]
          refine wpAnyH_take (i := 19) (oi := { dst := some 4, op := Op.assign (Operand.tmp 75), type := 4, pos := "instr.go:64", after := #[{ on := 18, ground := Ground.data }, { on := 16, ground := Ground.chain }, { on := 0, ground := Ground.phase }, { on := 1, ground := Ground.phase }, { on := 2, ground := Ground.phase }, { on := 3, ground := Ground.phase }, { on := 4, ground := Ground.phase }, { on := 5, ground := Ground.phase }, { on := 6, ground := Ground.phase }, { on := 7, ground := Ground.phase }, { on := 8, ground := Ground.phase }, { on := 9, ground := Ground.phase }, { on := 10, ground := Ground.phase }, { on := 11, ground := Ground.phase }, { on := 12, ground := Ground.phase }, { on := 13, ground := Ground.phase }, { on := 14, ground := Ground.phase }, { on := 15, ground := Ground.phase }, { on := 16, ground := Ground.phase }, { on := 17, ground := Ground.phase }, { on := 18, ground := Ground.phase }], guard := none }) (v := ?v44x31) rfl (by kernel_rfl) (by kernel_rfl) (by kernel_rfl) (fun _ _ _ h => h) (Or.inl ⟨by rfl, ?y44x31⟩) hn ?r44x31
          case y44x31 => (intro wS hS; (try go_simp); (try with_reducible rfl))
          try simp only [Act.put, List.setIfInBounds_toArray, List.set_cons_zero, List.set_cons_succ]
          refine wpAnyH_take (i := 20) (oi := { dst := some 76, op := Op.fieldAddr 34 (Operand.tmp 1) 6, type := 0, pos := "instr.go:64", after := #[{ on := 0, ground := Ground.phase }, { on := 1, ground := Ground.phase }, { on := 2, ground := Ground.phase }, { on := 3, ground := Ground.phase }, { on := 4, ground := Ground.phase }, { on := 5, ground := Ground.phase }, { on := 6, ground := Ground.phase }, { on := 7, ground := Ground.phase }, { on := 8, ground := Ground.phase }, { on := 9, ground := Ground.phase }, { on := 10, ground := Ground.phase }, { on := 11, ground := Ground.phase }, { on := 12, ground := Ground.phase }, { on := 13, ground := Ground.phase }, { on := 14, ground := Ground.phase }, { on := 15, ground := Ground.phase }, { on := 16, ground := Ground.phase }, { on := 17, ground := Ground.phase }, { on := 18, ground := Ground.phase }, { on := 19, ground := Ground.phase }], guard := none }) (v := ?v44x32) rfl (by kernel_rfl) (by kernel_rfl) (by kernel_rfl) (fun _ _ _ h => h) (Or.inl ⟨by rfl, ?y44x32⟩) hn ?r44x32
          case y44x32 => (intro wS hS; (try go_simp); (try with_reducible rfl))
          try simp only [Act.put, List.setIfInBounds_toArray, List.set_cons_zero, List.set_cons_succ]
          refine wpAnyH_ready (rs := [21]) (by kernel_rfl) (by simp) ?_
          refine AllReadyH.cons (o := { dst := none, op := Op.store 9 (Operand.tmp 76) (Operand.const (Value.string { data := #[] })), type := 0, pos := "instr.go:64", after := #[{ on := 20, ground := Ground.data }, { on := 19, ground := Ground.chain }, { on := 0, ground := Ground.phase }, { on := 1, ground := Ground.phase }, { on := 2, ground := Ground.phase }, { on := 3, ground := Ground.phase }, { on := 4, ground := Ground.phase }, { on := 5, ground := Ground.phase }, { on := 6, ground := Ground.phase }, { on := 7, ground := Ground.phase }, { on := 8, ground := Ground.phase }, { on := 9, ground := Ground.phase }, { on := 10, ground := Ground.phase }, { on := 11, ground := Ground.phase }, { on := 12, ground := Ground.phase }, { on := 13, ground := Ground.phase }, { on := 14, ground := Ground.phase }, { on := 15, ground := Ground.phase }, { on := 16, ground := Ground.phase }, { on := 17, ground := Ground.phase }, { on := 18, ground := Ground.phase }, { on := 19, ground := Ground.phase }], guard := none }) rfl (fun K hK => ?_) AllReadyH.nil
          have z9 := cellAt hbx 9 (v := .string raw) rfl
          have f9 := frozenAt hbx 9
          go_simp
          have hbx := hp_set hbx 9 (.string ⟨#[]⟩)
          have hn : (fun w' => New w w' ∧ w'.heap[wa.heap.size]? = some (.cells #[.int .i64 13, .int .i64 ln] 66)) (wr.setCell ⟨w.heap.size, 9, none⟩ (.string ⟨#[]⟩)) := ⟨setNew hn.1 9 _, hp_other hn.2 HNE.out⟩
          refine hK.out _ _ (by first | exact hn | exact Upd.alloc hn _) (fun hn => ?_)
          clear hK K
          try simp only [Act.put, List.setIfInBounds_toArray, List.set_cons_zero, List.set_cons_succ]
          refine wpAnyH_done (by kernel_rfl) ?_ _
          refine NoPanic.normal ?_
          go_wp2_with fail
          go_meet
          exact ⟨_, (.slice al li.length cl), (.slice au (lb ty).length cu), rfl, (by have h : raw.size = 16 := (by have := has_eq HBH.out; omega); simp [ownQ, h]), hbx, hn.1, HL.out.new hn.1, HU.out.new hn.1⟩
        | false =>
          have hn : (fun w' => New w w' ∧ w'.heap[wa.heap.size]? = some (.cells #[.int .i64 13, .int .i64 ln] 66)) wb.drew := ⟨HN.out.drew, HI.out⟩
          have hbx : Box wb.drew w.heap.size ⟨p, c, k, t, i, x, y, li, n, raw, lane, ty⟩ (.slice al li.length cl) (.slice au (lb ty).length cu) := HB.out
          clear y0 y1 z9 f9
          go_wp2_with fail
          refine wp_region_noPanic ?_
          refine wp_region_held_drew (S := (fun w' => New w w' ∧ w'.heap[wa.heap.size]? = some (.cells #[.int .i64 13, .int .i64 ln] 66))) (by kernel_rfl) (by first | exact hn | exact (Upd.refl _ _).drew | exact Upd.drew (by assumption)) (fun hn => ?_)
          generalize wb.drew = wd at *
          refine wpAnyH_take (i := 0) (oi := { dst := some 57, op := Op.move (Operand.tmp 4), type := 4, pos := "instr.go:64", after := #[], guard := none }) (v := ?v45x1) rfl (by kernel_rfl) (by kernel_rfl) (by kernel_rfl) (fun _ _ _ h => h) (Or.inl ⟨by rfl, ?y45x1⟩) hn ?r45x1
          case y45x1 => (intro wS hS; (try go_simp); (try with_reducible rfl))
          try simp only [Act.put, List.setIfInBounds_toArray, List.set_cons_zero, List.set_cons_succ]
          refine wpAnyH_take (i := 1) (oi := { dst := some 58, op := Op.move (Operand.tmp 57), type := 4, pos := "instr.go:64", after := #[{ on := 0, ground := Ground.data }], guard := none }) (v := ?v45x2) rfl (by kernel_rfl) (by kernel_rfl) (by kernel_rfl) (fun _ _ _ h => h) (Or.inl ⟨by rfl, ?y45x2⟩) hn ?r45x2
          case y45x2 => (intro wS hS; (try go_simp); (try with_reducible rfl))
          try simp only [Act.put, List.setIfInBounds_toArray, List.set_cons_zero, List.set_cons_succ]
          refine wpAnyH_take (i := 2) (oi := { dst := some 59, op := Op.load 66 (Operand.tmp 3), type := 66, pos := "instr.go:64", after := #[{ on := 1, ground := Ground.guard }], guard := some (1, true) }) (v := ?v45x3) rfl (by kernel_rfl) (by kernel_rfl) (by kernel_rfl) (fun _ _ _ h => h) (Or.inl ⟨by rfl, ?y45x3⟩) hn ?r45x3
          case y45x3 => (intro wS hS; have c0 := cellAt hS.2 0 rfl; have c1 := cellAt hS.2 1 rfl; (try go_simp); (try with_reducible rfl))
          try simp only [Act.put, List.setIfInBounds_toArray, List.set_cons_zero, List.set_cons_succ]
          refine wpAnyH_take (i := 4) (oi := { dst := some 61, op := Op.fieldAddr 34 (Operand.tmp 1) 6, type := 0, pos := "instr.go:64", after := #[{ on := 1, ground := Ground.guard }], guard := some (1, true) }) (v := ?v45x4) rfl (by kernel_rfl) (by kernel_rfl) (by kernel_rfl) (fun _ _ _ h => h) (Or.inl ⟨by rfl, ?y45x4⟩) hn ?r45x4
          case y45x4 => (intro wS hS; (try go_simp); (try with_reducible rfl))
          try simp only [Act.put, List.setIfInBounds_toArray, List.set_cons_zero, List.set_cons_succ]
          refine wpAnyH_ready (rs := [3, 5]) (by kernel_rfl) (by simp) ?_
          refine AllReadyH.cons (o := { dst := some 60, op := Op.call { callee := Callee.value (Operand.func 31), args := #[Operand.tmp 59], argTypes := #[66] }, type := 70, pos := "instr.go:64", after := #[{ on := 2, ground := Ground.data }, { on := 1, ground := Ground.chain }, { on := 1, ground := Ground.guard }], guard := some (1, true) }) rfl (fun K hK => ?_) ?_
          · skip
            go_simp
            refine (HS2.out _ _).mono ?_
            rintro e wq ⟨rfl, hnq⟩
            go_wp2_with fail
            have hbx := hp1 hbx hnq
            have hn : (fun w' => New w w' ∧ w'.heap[wa.heap.size]? = some (.cells #[.int .i64 13, .int .i64 ln] 66)) wq := ⟨New.trans hn.1 hnq, hp1 hn.2 hnq⟩
            refine hK.out _ _ (by first | exact hn | exact Upd.alloc hn _) (fun hn => ?_)
            clear hK K
            try simp only [Act.put, List.setIfInBounds_toArray, List.set_cons_zero, List.set_cons_succ]
            refine wpAnyH_ready (rs := [5]) (by kernel_rfl) (by simp) ?_
            refine AllReadyH.cons (o := { dst := some 62, op := Op.load 9 (Operand.tmp 61), type := 9, pos := "instr.go:64", after := #[{ on := 4, ground := Ground.data }, { on := 1, ground := Ground.guard }], guard := some (1, true) }) rfl (fun K hK => ?_) AllReadyH.nil
            have z9 := cellAt hbx 9 (v := .string raw) rfl
            go_simp
            refine hK.out _ _ (by first | exact hn | exact Upd.alloc hn _) (fun hn => ?_)
            clear hK K
            try simp only [Act.put, List.setIfInBounds_toArray, List.set_cons_zero, List.set_cons_succ]
            refine wpAnyH_take (i := 6) (oi := { dst := some 63, op := Op.call { callee := Callee.builtin Builtin.len, args := #[Operand.tmp 62], argTypes := #[9] }, type := 3, pos := "instr.go:64", after := #[{ on := 5, ground := Ground.data }, { on := 1, ground := Ground.guard }], guard := some (1, true) }) (v := ?v45x5) rfl (by kernel_rfl) (by kernel_rfl) (by kernel_rfl) (fun _ _ _ h => h) (Or.inl ⟨by rfl, ?y45x5⟩) hn ?r45x5
            case y45x5 => (intro wS hS; (try go_simp); (try with_reducible rfl))
            try simp only [Act.put, List.setIfInBounds_toArray, List.set_cons_zero, List.set_cons_succ]
            refine wpAnyH_ready (rs := [7]) (by kernel_rfl) (by simp) ?_
            refine AllReadyH.cons (o := { dst := some 64, op := Op.call { callee := Callee.value (Operand.func 32), args := #[Operand.tmp 60, Operand.tmp 63], argTypes := #[70, 3] }, type := 4, pos := "instr.go:64", after := #[{ on := 3, ground := Ground.data }, { on := 6, ground := Ground.data }, { on := 3, ground := Ground.chain }, { on := 1, ground := Ground.guard }], guard := some (1, true) }) rfl (fun K hK => ?_) AllReadyH.nil
            go_simp
            refine (HH2.out _).mono ?_
            rintro e wr ⟨rfl, hnq⟩
            go_wp2_with fail
            have hbx := hp1 hbx hnq
            have hn : (fun w' => New w w' ∧ w'.heap[wa.heap.size]? = some (.cells #[.int .i64 13, .int .i64 ln] 66)) wr := ⟨New.trans hn.1 hnq, hp1 hn.2 hnq⟩
            refine hK.out _ _ (by first | exact hn | exact Upd.alloc hn _) (fun hn => ?_)
            clear hK K
            try simp only [Act.put, List.setIfInBounds_toArray, List.set_cons_zero, List.set_cons_succ]
            refine wpAnyH_take (i := 8) (oi := { dst := some 65, op := Op.pick (Operand.tmp 58) (Operand.tmp 64) (Operand.const (Value.bool false)), type := 4, pos := "instr.go:64", after := #[{ on := 1, ground := Ground.data }, { on := 7, ground := Ground.data }], guard := none }) (v := ?v45x6) rfl (by kernel_rfl) (by kernel_rfl) (by kernel_rfl) (fun _ _ _ h => h) (Or.inl ⟨by rfl, ?y45x6⟩) hn ?r45x6
            case y45x6 => (intro wS hS; (try go_simp); (try with_reducible rfl))
            try simp only [Act.put, List.setIfInBounds_toArray, List.set_cons_zero, List.set_cons_succ]
            refine wpAnyH_take (i := 9) (oi := { dst := some 66, op := Op.move (Operand.tmp 65), type := 4, pos := "instr.go:64", after := #[{ on := 8, ground := Ground.data }, { on := 7, ground := Ground.chain }], guard := none }) (v := ?v45x7) rfl (by kernel_rfl) (by kernel_rfl) (by kernel_rfl) (fun _ _ _ h => h) (Or.inl ⟨by rfl, ?y45x7⟩) hn ?r45x7
            case y45x7 => (intro wS hS; (try go_simp); (try with_reducible rfl))
            try simp only [Act.put, List.setIfInBounds_toArray, List.set_cons_zero, List.set_cons_succ]
            refine wpAnyH_take (i := 10) (oi := { dst := some 67, op := Op.fieldAddr 66 (Operand.tmp 3) 0, type := 0, pos := "instr.go:64", after := #[{ on := 9, ground := Ground.guard }], guard := some (9, true) }) (v := undef) rfl (by kernel_rfl) (by kernel_rfl) (by kernel_rfl) (fun _ _ _ h => h) (Or.inr ⟨by rfl, rfl⟩) hn ?_
            try simp only [Act.put, List.setIfInBounds_toArray, List.set_cons_zero, List.set_cons_succ]
            refine wpAnyH_take (i := 11) (oi := { dst := some 68, op := Op.load 3 (Operand.tmp 67), type := 3, pos := "instr.go:64", after := #[{ on := 10, ground := Ground.data }, { on := 9, ground := Ground.guard }], guard := some (9, true) }) (v := undef) rfl (by kernel_rfl) (by kernel_rfl) (by kernel_rfl) (fun _ _ _ h => h) (Or.inr ⟨by rfl, rfl⟩) hn ?_
            try simp only [Act.put, List.setIfInBounds_toArray, List.set_cons_zero, List.set_cons_succ]
            refine wpAnyH_take (i := 12) (oi := { dst := some 69, op := Op.binOp BinOp.neq 3 (Operand.tmp 68) (Operand.const (Value.int IntKind.i64 14)) 3, type := 4, pos := "instr.go:64", after := #[{ on := 11, ground := Ground.data }, { on := 9, ground := Ground.guard }], guard := some (9, true) }) (v := undef) rfl (by kernel_rfl) (by kernel_rfl) (by kernel_rfl) (fun _ _ _ h => h) (Or.inr ⟨by rfl, rfl⟩) hn ?_
            try simp only [Act.put, List.setIfInBounds_toArray, List.set_cons_zero, List.set_cons_succ]
            refine wpAnyH_take (i := 13) (oi := { dst := some 70, op := Op.move (Operand.tmp 69), type := 4, pos := "instr.go:64", after := #[{ on := 12, ground := Ground.data }, { on := 9, ground := Ground.chain }, { on := 9, ground := Ground.guard }], guard := some (9, true) }) (v := undef) rfl (by kernel_rfl) (by kernel_rfl) (by kernel_rfl) (fun _ _ _ h => h) (Or.inr ⟨by rfl, rfl⟩) hn ?_
            try simp only [Act.put, List.setIfInBounds_toArray, List.set_cons_zero, List.set_cons_succ]
            refine wpAnyH_take (i := 14) (oi := { dst := some 71, op := Op.fieldAddr 34 (Operand.tmp 1) 6, type := 0, pos := "instr.go:64", after := #[{ on := 13, ground := Ground.guard }], guard := some (13, false) }) (v := undef) rfl (by kernel_rfl) (by kernel_rfl) (by kernel_rfl) (fun _ _ _ h => h) (Or.inr ⟨by rfl, rfl⟩) hn ?_
            try simp only [Act.put, List.setIfInBounds_toArray, List.set_cons_zero, List.set_cons_succ]
            refine wpAnyH_take (i := 15) (oi := { dst := some 72, op := Op.load 9 (Operand.tmp 71), type := 9, pos := "instr.go:64", after := #[{ on := 14, ground := Ground.data }, { on := 13, ground := Ground.guard }], guard := some (13, false) }) (v := undef) rfl (by kernel_rfl) (by kernel_rfl) (by kernel_rfl) (fun _ _ _ h => h) (Or.inr ⟨by rfl, rfl⟩) hn ?_
            try simp only [Act.put, List.setIfInBounds_toArray, List.set_cons_zero, List.set_cons_succ]
            refine wpAnyH_take (i := 16) (oi := { dst := some 73, op := Op.call { callee := Callee.value (Operand.func 33), args := #[Operand.tmp 72], argTypes := #[9] }, type := 4, pos := "instr.go:64", after := #[{ on := 15, ground := Ground.data }, { on := 13, ground := Ground.chain }, { on := 13, ground := Ground.guard }], guard := some (13, false) }) (v := undef) rfl (by kernel_rfl) (by kernel_rfl) (by kernel_rfl) (fun _ _ _ h => h) (Or.inr ⟨by rfl, rfl⟩) hn ?_
            try simp only [Act.put, List.setIfInBounds_toArray, List.set_cons_zero, List.set_cons_succ]
            refine wpAnyH_take (i := 17) (oi := { dst := some 74, op := Op.pick (Operand.tmp 70) (Operand.const (Value.bool true)) (Operand.tmp 73), type := 4, pos := "instr.go:64", after := #[{ on := 13, ground := Ground.data }, { on := 16, ground := Ground.data }, { on := 9, ground := Ground.guard }], guard := some (9, true) }) (v := undef) rfl (by kernel_rfl) (by kernel_rfl) (by kernel_rfl) (fun _ _ _ h => h) (Or.inr ⟨by rfl, rfl⟩) hn ?_
            try simp only [Act.put, List.setIfInBounds_toArray, List.set_cons_zero, List.set_cons_succ]
            refine wpAnyH_take (i := 18) (oi := { dst := some 75, op := Op.pick (Operand.tmp 66) (Operand.tmp 74) (Operand.const (Value.bool false)), type := 4, pos := "instr.go:64", after := #[{ on := 9, ground := Ground.data }, { on := 17, ground := Ground.data }], guard := none }) (v := ?v45x16) rfl (by kernel_rfl) (by kernel_rfl) (by kernel_rfl) (fun _ _ _ h => h) (Or.inl ⟨by rfl, ?y45x16⟩) hn ?r45x16
            case y45x16 => (intro wS hS; (try go_simp); (try with_reducible rfl))
            try simp only [Act.put, List.setIfInBounds_toArray, List.set_cons_zero, List.set_cons_succ]
            refine wpAnyH_take (i := 19) (oi := { dst := some 4, op := Op.assign (Operand.tmp 75), type := 4, pos := "instr.go:64", after := #[{ on := 18, ground := Ground.data }, { on := 16, ground := Ground.chain }, { on := 0, ground := Ground.phase }, { on := 1, ground := Ground.phase }, { on := 2, ground := Ground.phase }, { on := 3, ground := Ground.phase }, { on := 4, ground := Ground.phase }, { on := 5, ground := Ground.phase }, { on := 6, ground := Ground.phase }, { on := 7, ground := Ground.phase }, { on := 8, ground := Ground.phase }, { on := 9, ground := Ground.phase }, { on := 10, ground := Ground.phase }, { on := 11, ground := Ground.phase }, { on := 12, ground := Ground.phase }, { on := 13, ground := Ground.phase }, { on := 14, ground := Ground.phase }, { on := 15, ground := Ground.phase }, { on := 16, ground := Ground.phase }, { on := 17, ground := Ground.phase }, { on := 18, ground := Ground.phase }], guard := none }) (v := ?v45x17) rfl (by kernel_rfl) (by kernel_rfl) (by kernel_rfl) (fun _ _ _ h => h) (Or.inl ⟨by rfl, ?y45x17⟩) hn ?r45x17
            case y45x17 => (intro wS hS; (try go_simp); (try with_reducible rfl))
            try simp only [Act.put, List.setIfInBounds_toArray, List.set_cons_zero, List.set_cons_succ]
            refine wpAnyH_take (i := 20) (oi := { dst := some 76, op := Op.fieldAddr 34 (Operand.tmp 1) 6, type := 0, pos := "instr.go:64", after := #[{ on := 0, ground := Ground.phase }, { on := 1, ground := Ground.phase }, { on := 2, ground := Ground.phase }, { on := 3, ground := Ground.phase }, { on := 4, ground := Ground.phase }, { on := 5, ground := Ground.phase }, { on := 6, ground := Ground.phase }, { on := 7, ground := Ground.phase }, { on := 8, ground := Ground.phase }, { on := 9, ground := Ground.phase }, { on := 10, ground := Ground.phase }, { on := 11, ground := Ground.phase }, { on := 12, ground := Ground.phase }, { on := 13, ground := Ground.phase }, { on := 14, ground := Ground.phase }, { on := 15, ground := Ground.phase }, { on := 16, ground := Ground.phase }, { on := 17, ground := Ground.phase }, { on := 18, ground := Ground.phase }, { on := 19, ground := Ground.phase }], guard := none }) (v := ?v45x18) rfl (by kernel_rfl) (by kernel_rfl) (by kernel_rfl) (fun _ _ _ h => h) (Or.inl ⟨by rfl, ?y45x18⟩) hn ?r45x18
            case y45x18 => (intro wS hS; (try go_simp); (try with_reducible rfl))
            try simp only [Act.put, List.setIfInBounds_toArray, List.set_cons_zero, List.set_cons_succ]
            refine wpAnyH_ready (rs := [21]) (by kernel_rfl) (by simp) ?_
            refine AllReadyH.cons (o := { dst := none, op := Op.store 9 (Operand.tmp 76) (Operand.const (Value.string { data := #[] })), type := 0, pos := "instr.go:64", after := #[{ on := 20, ground := Ground.data }, { on := 19, ground := Ground.chain }, { on := 0, ground := Ground.phase }, { on := 1, ground := Ground.phase }, { on := 2, ground := Ground.phase }, { on := 3, ground := Ground.phase }, { on := 4, ground := Ground.phase }, { on := 5, ground := Ground.phase }, { on := 6, ground := Ground.phase }, { on := 7, ground := Ground.phase }, { on := 8, ground := Ground.phase }, { on := 9, ground := Ground.phase }, { on := 10, ground := Ground.phase }, { on := 11, ground := Ground.phase }, { on := 12, ground := Ground.phase }, { on := 13, ground := Ground.phase }, { on := 14, ground := Ground.phase }, { on := 15, ground := Ground.phase }, { on := 16, ground := Ground.phase }, { on := 17, ground := Ground.phase }, { on := 18, ground := Ground.phase }, { on := 19, ground := Ground.phase }], guard := none }) rfl (fun K hK => ?_) AllReadyH.nil
            have z9 := cellAt hbx 9 (v := .string raw) rfl
            have f9 := frozenAt hbx 9
            go_simp
            have hbx := hp_set hbx 9 (.string ⟨#[]⟩)
            have hn : (fun w' => New w w' ∧ w'.heap[wa.heap.size]? = some (.cells #[.int .i64 13, .int .i64 ln] 66)) (wr.setCell ⟨w.heap.size, 9, none⟩ (.string ⟨#[]⟩)) := ⟨setNew hn.1 9 _, hp_other hn.2 HNE.out⟩
            refine hK.out _ _ (by first | exact hn | exact Upd.alloc hn _) (fun hn => ?_)
            clear hK K
            try simp only [Act.put, List.setIfInBounds_toArray, List.set_cons_zero, List.set_cons_succ]
            refine wpAnyH_done (by kernel_rfl) ?_ _
            refine NoPanic.normal ?_
            go_wp2_with fail
            go_meet
            exact ⟨_, (.slice al li.length cl), (.slice au (lb ty).length cu), rfl, (by have h := has_ne HBH.out; simp [ownQ, h]), hbx, hn.1, HL.out.new hn.1, HU.out.new hn.1⟩
          refine AllReadyH.cons (o := { dst := some 62, op := Op.load 9 (Operand.tmp 61), type := 9, pos := "instr.go:64", after := #[{ on := 4, ground := Ground.data }, { on := 1, ground := Ground.guard }], guard := some (1, true) }) rfl (fun K hK => ?_) AllReadyH.nil
          have z9 := cellAt hbx 9 (v := .string raw) rfl
          go_simp
          refine hK.out _ _ (by first | exact hn | exact Upd.alloc hn _) (fun hn => ?_)
          clear hK K
          try simp only [Act.put, List.setIfInBounds_toArray, List.set_cons_zero, List.set_cons_succ]
          refine wpAnyH_take (i := 6) (oi := { dst := some 63, op := Op.call { callee := Callee.builtin Builtin.len, args := #[Operand.tmp 62], argTypes := #[9] }, type := 3, pos := "instr.go:64", after := #[{ on := 5, ground := Ground.data }, { on := 1, ground := Ground.guard }], guard := some (1, true) }) (v := ?v45x19) rfl (by kernel_rfl) (by kernel_rfl) (by kernel_rfl) (fun _ _ _ h => h) (Or.inl ⟨by rfl, ?y45x19⟩) hn ?r45x19
          case y45x19 => (intro wS hS; (try go_simp); (try with_reducible rfl))
          try simp only [Act.put, List.setIfInBounds_toArray, List.set_cons_zero, List.set_cons_succ]
          refine wpAnyH_ready (rs := [3]) (by kernel_rfl) (by simp) ?_
          refine AllReadyH.cons (o := { dst := some 60, op := Op.call { callee := Callee.value (Operand.func 31), args := #[Operand.tmp 59], argTypes := #[66] }, type := 70, pos := "instr.go:64", after := #[{ on := 2, ground := Ground.data }, { on := 1, ground := Ground.chain }, { on := 1, ground := Ground.guard }], guard := some (1, true) }) rfl (fun K hK => ?_) AllReadyH.nil
          go_simp
          refine (HS2.out _ _).mono ?_
          rintro e wq ⟨rfl, hnq⟩
          go_wp2_with fail
          have hbx := hp1 hbx hnq
          have hn : (fun w' => New w w' ∧ w'.heap[wa.heap.size]? = some (.cells #[.int .i64 13, .int .i64 ln] 66)) wq := ⟨New.trans hn.1 hnq, hp1 hn.2 hnq⟩
          refine hK.out _ _ (by first | exact hn | exact Upd.alloc hn _) (fun hn => ?_)
          clear hK K
          try simp only [Act.put, List.setIfInBounds_toArray, List.set_cons_zero, List.set_cons_succ]
          refine wpAnyH_ready (rs := [7]) (by kernel_rfl) (by simp) ?_
          refine AllReadyH.cons (o := { dst := some 64, op := Op.call { callee := Callee.value (Operand.func 32), args := #[Operand.tmp 60, Operand.tmp 63], argTypes := #[70, 3] }, type := 4, pos := "instr.go:64", after := #[{ on := 3, ground := Ground.data }, { on := 6, ground := Ground.data }, { on := 3, ground := Ground.chain }, { on := 1, ground := Ground.guard }], guard := some (1, true) }) rfl (fun K hK => ?_) AllReadyH.nil
          go_simp
          refine (HH2.out _).mono ?_
          rintro e wr ⟨rfl, hnq⟩
          go_wp2_with fail
          have hbx := hp1 hbx hnq
          have hn : (fun w' => New w w' ∧ w'.heap[wa.heap.size]? = some (.cells #[.int .i64 13, .int .i64 ln] 66)) wr := ⟨New.trans hn.1 hnq, hp1 hn.2 hnq⟩
          refine hK.out _ _ (by first | exact hn | exact Upd.alloc hn _) (fun hn => ?_)
          clear hK K
          try simp only [Act.put, List.setIfInBounds_toArray, List.set_cons_zero, List.set_cons_succ]
          refine wpAnyH_take (i := 8) (oi := { dst := some 65, op := Op.pick (Operand.tmp 58) (Operand.tmp 64) (Operand.const (Value.bool false)), type := 4, pos := "instr.go:64", after := #[{ on := 1, ground := Ground.data }, { on := 7, ground := Ground.data }], guard := none }) (v := ?v45x20) rfl (by kernel_rfl) (by kernel_rfl) (by kernel_rfl) (fun _ _ _ h => h) (Or.inl ⟨by rfl, ?y45x20⟩) hn ?r45x20
          case y45x20 => (intro wS hS; (try go_simp); (try with_reducible rfl))
          try simp only [Act.put, List.setIfInBounds_toArray, List.set_cons_zero, List.set_cons_succ]
          refine wpAnyH_take (i := 9) (oi := { dst := some 66, op := Op.move (Operand.tmp 65), type := 4, pos := "instr.go:64", after := #[{ on := 8, ground := Ground.data }, { on := 7, ground := Ground.chain }], guard := none }) (v := ?v45x21) rfl (by kernel_rfl) (by kernel_rfl) (by kernel_rfl) (fun _ _ _ h => h) (Or.inl ⟨by rfl, ?y45x21⟩) hn ?r45x21
          case y45x21 => (intro wS hS; (try go_simp); (try with_reducible rfl))
          try simp only [Act.put, List.setIfInBounds_toArray, List.set_cons_zero, List.set_cons_succ]
          refine wpAnyH_take (i := 10) (oi := { dst := some 67, op := Op.fieldAddr 66 (Operand.tmp 3) 0, type := 0, pos := "instr.go:64", after := #[{ on := 9, ground := Ground.guard }], guard := some (9, true) }) (v := undef) rfl (by kernel_rfl) (by kernel_rfl) (by kernel_rfl) (fun _ _ _ h => h) (Or.inr ⟨by rfl, rfl⟩) hn ?_
          try simp only [Act.put, List.setIfInBounds_toArray, List.set_cons_zero, List.set_cons_succ]
          refine wpAnyH_take (i := 11) (oi := { dst := some 68, op := Op.load 3 (Operand.tmp 67), type := 3, pos := "instr.go:64", after := #[{ on := 10, ground := Ground.data }, { on := 9, ground := Ground.guard }], guard := some (9, true) }) (v := undef) rfl (by kernel_rfl) (by kernel_rfl) (by kernel_rfl) (fun _ _ _ h => h) (Or.inr ⟨by rfl, rfl⟩) hn ?_
          try simp only [Act.put, List.setIfInBounds_toArray, List.set_cons_zero, List.set_cons_succ]
          refine wpAnyH_take (i := 12) (oi := { dst := some 69, op := Op.binOp BinOp.neq 3 (Operand.tmp 68) (Operand.const (Value.int IntKind.i64 14)) 3, type := 4, pos := "instr.go:64", after := #[{ on := 11, ground := Ground.data }, { on := 9, ground := Ground.guard }], guard := some (9, true) }) (v := undef) rfl (by kernel_rfl) (by kernel_rfl) (by kernel_rfl) (fun _ _ _ h => h) (Or.inr ⟨by rfl, rfl⟩) hn ?_
          try simp only [Act.put, List.setIfInBounds_toArray, List.set_cons_zero, List.set_cons_succ]
          refine wpAnyH_take (i := 13) (oi := { dst := some 70, op := Op.move (Operand.tmp 69), type := 4, pos := "instr.go:64", after := #[{ on := 12, ground := Ground.data }, { on := 9, ground := Ground.chain }, { on := 9, ground := Ground.guard }], guard := some (9, true) }) (v := undef) rfl (by kernel_rfl) (by kernel_rfl) (by kernel_rfl) (fun _ _ _ h => h) (Or.inr ⟨by rfl, rfl⟩) hn ?_
          try simp only [Act.put, List.setIfInBounds_toArray, List.set_cons_zero, List.set_cons_succ]
          refine wpAnyH_take (i := 14) (oi := { dst := some 71, op := Op.fieldAddr 34 (Operand.tmp 1) 6, type := 0, pos := "instr.go:64", after := #[{ on := 13, ground := Ground.guard }], guard := some (13, false) }) (v := undef) rfl (by kernel_rfl) (by kernel_rfl) (by kernel_rfl) (fun _ _ _ h => h) (Or.inr ⟨by rfl, rfl⟩) hn ?_
          try simp only [Act.put, List.setIfInBounds_toArray, List.set_cons_zero, List.set_cons_succ]
          refine wpAnyH_take (i := 15) (oi := { dst := some 72, op := Op.load 9 (Operand.tmp 71), type := 9, pos := "instr.go:64", after := #[{ on := 14, ground := Ground.data }, { on := 13, ground := Ground.guard }], guard := some (13, false) }) (v := undef) rfl (by kernel_rfl) (by kernel_rfl) (by kernel_rfl) (fun _ _ _ h => h) (Or.inr ⟨by rfl, rfl⟩) hn ?_
          try simp only [Act.put, List.setIfInBounds_toArray, List.set_cons_zero, List.set_cons_succ]
          refine wpAnyH_take (i := 16) (oi := { dst := some 73, op := Op.call { callee := Callee.value (Operand.func 33), args := #[Operand.tmp 72], argTypes := #[9] }, type := 4, pos := "instr.go:64", after := #[{ on := 15, ground := Ground.data }, { on := 13, ground := Ground.chain }, { on := 13, ground := Ground.guard }], guard := some (13, false) }) (v := undef) rfl (by kernel_rfl) (by kernel_rfl) (by kernel_rfl) (fun _ _ _ h => h) (Or.inr ⟨by rfl, rfl⟩) hn ?_
          try simp only [Act.put, List.setIfInBounds_toArray, List.set_cons_zero, List.set_cons_succ]
          refine wpAnyH_take (i := 17) (oi := { dst := some 74, op := Op.pick (Operand.tmp 70) (Operand.const (Value.bool true)) (Operand.tmp 73), type := 4, pos := "instr.go:64", after := #[{ on := 13, ground := Ground.data }, { on := 16, ground := Ground.data }, { on := 9, ground := Ground.guard }], guard := some (9, true) }) (v := undef) rfl (by kernel_rfl) (by kernel_rfl) (by kernel_rfl) (fun _ _ _ h => h) (Or.inr ⟨by rfl, rfl⟩) hn ?_
          try simp only [Act.put, List.setIfInBounds_toArray, List.set_cons_zero, List.set_cons_succ]
          refine wpAnyH_take (i := 18) (oi := { dst := some 75, op := Op.pick (Operand.tmp 66) (Operand.tmp 74) (Operand.const (Value.bool false)), type := 4, pos := "instr.go:64", after := #[{ on := 9, ground := Ground.data }, { on := 17, ground := Ground.data }], guard := none }) (v := ?v45x30) rfl (by kernel_rfl) (by kernel_rfl) (by kernel_rfl) (fun _ _ _ h => h) (Or.inl ⟨by rfl, ?y45x30⟩) hn ?r45x30
          case y45x30 => (intro wS hS; (try go_simp); (try with_reducible rfl))
          try simp only [Act.put, List.setIfInBounds_toArray, List.set_cons_zero, List.set_cons_succ]
          refine wpAnyH_take (i := 19) (oi := { dst := some 4, op := Op.assign (Operand.tmp 75), type := 4, pos := "instr.go:64", after := #[{ on := 18, ground := Ground.data }, { on := 16, ground := Ground.chain }, { on := 0, ground := Ground.phase }, { on := 1, ground := Ground.phase }, { on := 2, ground := Ground.phase }, { on := 3, ground := Ground.phase }, { on := 4, ground := Ground.phase }, { on := 5, ground := Ground.phase }, { on := 6, ground := Ground.phase }, { on := 7, ground := Ground.phase }, { on := 8, ground := Ground.phase }, { on := 9, ground := Ground.phase }, { on := 10, ground := Ground.phase }, { on := 11, ground := Ground.phase }, { on := 12, ground := Ground.phase }, { on := 13, ground := Ground.phase }, { on := 14, ground := Ground.phase }, { on := 15, ground := Ground.phase }, { on := 16, ground := Ground.phase }, { on := 17, ground := Ground.phase }, { on := 18, ground := Ground.phase }], guard := none }) (v := ?v45x31) rfl (by kernel_rfl) (by kernel_rfl) (by kernel_rfl) (fun _ _ _ h => h) (Or.inl ⟨by rfl, ?y45x31⟩) hn ?r45x31
          case y45x31 => (intro wS hS; (try go_simp); (try with_reducible rfl))
          try simp only [Act.put, List.setIfInBounds_toArray, List.set_cons_zero, List.set_cons_succ]
          refine wpAnyH_take (i := 20) (oi := { dst := some 76, op := Op.fieldAddr 34 (Operand.tmp 1) 6, type := 0, pos := "instr.go:64", after := #[{ on := 0, ground := Ground.phase }, { on := 1, ground := Ground.phase }, { on := 2, ground := Ground.phase }, { on := 3, ground := Ground.phase }, { on := 4, ground := Ground.phase }, { on := 5, ground := Ground.phase }, { on := 6, ground := Ground.phase }, { on := 7, ground := Ground.phase }, { on := 8, ground := Ground.phase }, { on := 9, ground := Ground.phase }, { on := 10, ground := Ground.phase }, { on := 11, ground := Ground.phase }, { on := 12, ground := Ground.phase }, { on := 13, ground := Ground.phase }, { on := 14, ground := Ground.phase }, { on := 15, ground := Ground.phase }, { on := 16, ground := Ground.phase }, { on := 17, ground := Ground.phase }, { on := 18, ground := Ground.phase }, { on := 19, ground := Ground.phase }], guard := none }) (v := ?v45x32) rfl (by kernel_rfl) (by kernel_rfl) (by kernel_rfl) (fun _ _ _ h => h) (Or.inl ⟨by rfl, ?y45x32⟩) hn ?r45x32
          case y45x32 => (intro wS hS; (try go_simp); (try with_reducible rfl))
          try simp only [Act.put, List.setIfInBounds_toArray, List.set_cons_zero, List.set_cons_succ]
          refine wpAnyH_ready (rs := [21]) (by kernel_rfl) (by simp) ?_
          refine AllReadyH.cons (o := { dst := none, op := Op.store 9 (Operand.tmp 76) (Operand.const (Value.string { data := #[] })), type := 0, pos := "instr.go:64", after := #[{ on := 20, ground := Ground.data }, { on := 19, ground := Ground.chain }, { on := 0, ground := Ground.phase }, { on := 1, ground := Ground.phase }, { on := 2, ground := Ground.phase }, { on := 3, ground := Ground.phase }, { on := 4, ground := Ground.phase }, { on := 5, ground := Ground.phase }, { on := 6, ground := Ground.phase }, { on := 7, ground := Ground.phase }, { on := 8, ground := Ground.phase }, { on := 9, ground := Ground.phase }, { on := 10, ground := Ground.phase }, { on := 11, ground := Ground.phase }, { on := 12, ground := Ground.phase }, { on := 13, ground := Ground.phase }, { on := 14, ground := Ground.phase }, { on := 15, ground := Ground.phase }, { on := 16, ground := Ground.phase }, { on := 17, ground := Ground.phase }, { on := 18, ground := Ground.phase }, { on := 19, ground := Ground.phase }], guard := none }) rfl (fun K hK => ?_) AllReadyH.nil
          have z9 := cellAt hbx 9 (v := .string raw) rfl
          have f9 := frozenAt hbx 9
          go_simp
          have hbx := hp_set hbx 9 (.string ⟨#[]⟩)
          have hn : (fun w' => New w w' ∧ w'.heap[wa.heap.size]? = some (.cells #[.int .i64 13, .int .i64 ln] 66)) (wr.setCell ⟨w.heap.size, 9, none⟩ (.string ⟨#[]⟩)) := ⟨setNew hn.1 9 _, hp_other hn.2 HNE.out⟩
          refine hK.out _ _ (by first | exact hn | exact Upd.alloc hn _) (fun hn => ?_)
          clear hK K
          try simp only [Act.put, List.setIfInBounds_toArray, List.set_cons_zero, List.set_cons_succ]
          refine wpAnyH_done (by kernel_rfl) ?_ _
          refine NoPanic.normal ?_
          go_wp2_with fail
          go_meet
          exact ⟨_, (.slice al li.length cl), (.slice au (lb ty).length cu), rfl, (by have h := has_ne HBH.out; simp [ownQ, h]), hbx, hn.1, HL.out.new hn.1, HU.out.new hn.1⟩
      · -- 14
        have HS2 := hid (fun l w => HSP.out 14 l w)
        rw [spanV_14] at HS2
        have HH2 := hid (fun w => HHA.out 16 16 raw.size w)
        obtain ⟨bh, hbh⟩ : ∃ bh, Span.has 16 16 raw.size = bh := ⟨_, rfl⟩
        rw [hbh] at HH2
        have y0 : wb.cell? ⟨wa.heap.size, 0, none⟩ = some (.int .i64 14) := cellAt HI.out 0 rfl
        have y1 : wb.cell? ⟨wa.heap.size, 1, none⟩ = some (.int .i64 ln) := cellAt HI.out 1 rfl
        have z9 : wb.cell? ⟨w.heap.size, 9, none⟩ = some (.string raw) := cellAt HB.out 9 rfl
        have f9 : wb.frozen? ⟨w.heap.size, 9, none⟩ = false := frozenAt HB.out 9
        have HBH := hid hbh
        clear hbh
        cases bh with
        | true =>
          have hn : (fun w' => New w w' ∧ w'.heap[wa.heap.size]? = some (.cells #[.int .i64 14, .int .i64 ln] 66)) wb.drew := ⟨HN.out.drew, HI.out⟩
          have hbx : Box wb.drew w.heap.size ⟨p, c, k, t, i, x, y, li, n, raw, lane, ty⟩ (.slice al li.length cl) (.slice au (lb ty).length cu) := HB.out
          clear y0 y1 z9 f9
          go_wp2_with fail
          refine wp_region_noPanic ?_
          refine wp_region_held_drew (S := (fun w' => New w w' ∧ w'.heap[wa.heap.size]? = some (.cells #[.int .i64 14, .int .i64 ln] 66))) (by kernel_rfl) (by first | exact hn | exact (Upd.refl _ _).drew | exact Upd.drew (by assumption)) (fun hn => ?_)
          generalize wb.drew = wd at *
          refine wpAnyH_take (i := 0) (oi := { dst := some 57, op := Op.move (Operand.tmp 4), type := 4, pos := "instr.go:64", after := #[], guard := none }) (v := ?v46x1) rfl (by kernel_rfl) (by kernel_rfl) (by kernel_rfl) (fun _ _ _ h => h) (Or.inl ⟨by rfl, ?y46x1⟩) hn ?r46x1
          case y46x1 => (intro wS hS; (try go_simp); (try with_reducible rfl))
          try simp only [Act.put, List.setIfInBounds_toArray, List.set_cons_zero, List.set_cons_succ]
          refine wpAnyH_take (i := 1) (oi := { dst := some 58, op := Op.move (Operand.tmp 57), type := 4, pos := "instr.go:64", after := #[{ on := 0, ground := Ground.data }], guard := none }) (v := ?v46x2) rfl (by kernel_rfl) (by kernel_rfl) (by kernel_rfl) (fun _ _ _ h => h) (Or.inl ⟨by rfl, ?y46x2⟩) hn ?r46x2
          case y46x2 => (intro wS hS; (try go_simp); (try with_reducible rfl))
          try simp only [Act.put, List.setIfInBounds_toArray, List.set_cons_zero, List.set_cons_succ]
          refine wpAnyH_take (i := 2) (oi := { dst := some 59, op := Op.load 66 (Operand.tmp 3), type := 66, pos := "instr.go:64", after := #[{ on := 1, ground := Ground.guard }], guard := some (1, true) }) (v := ?v46x3) rfl (by kernel_rfl) (by kernel_rfl) (by kernel_rfl) (fun _ _ _ h => h) (Or.inl ⟨by rfl, ?y46x3⟩) hn ?r46x3
          case y46x3 => (intro wS hS; have c0 := cellAt hS.2 0 rfl; have c1 := cellAt hS.2 1 rfl; (try go_simp); (try with_reducible rfl))
          try simp only [Act.put, List.setIfInBounds_toArray, List.set_cons_zero, List.set_cons_succ]
          refine wpAnyH_take (i := 4) (oi := { dst := some 61, op := Op.fieldAddr 34 (Operand.tmp 1) 6, type := 0, pos := "instr.go:64", after := #[{ on := 1, ground := Ground.guard }], guard := some (1, true) }) (v := ?v46x4) rfl (by kernel_rfl) (by kernel_rfl) (by kernel_rfl) (fun _ _ _ h => h) (Or.inl ⟨by rfl, ?y46x4⟩) hn ?r46x4
          case y46x4 => (intro wS hS; (try go_simp); (try with_reducible rfl))
          try simp only [Act.put, List.setIfInBounds_toArray, List.set_cons_zero, List.set_cons_succ]
          refine wpAnyH_ready (rs := [3, 5]) (by kernel_rfl) (by simp) ?_
          refine AllReadyH.cons (o := { dst := some 60, op := Op.call { callee := Callee.value (Operand.func 31), args := #[Operand.tmp 59], argTypes := #[66] }, type := 70, pos := "instr.go:64", after := #[{ on := 2, ground := Ground.data }, { on := 1, ground := Ground.chain }, { on := 1, ground := Ground.guard }], guard := some (1, true) }) rfl (fun K hK => ?_) ?_
          · skip
            go_simp
            refine (HS2.out _ _).mono ?_
            rintro e wq ⟨rfl, hnq⟩
            go_wp2_with fail
            have hbx := hp1 hbx hnq
            have hn : (fun w' => New w w' ∧ w'.heap[wa.heap.size]? = some (.cells #[.int .i64 14, .int .i64 ln] 66)) wq := ⟨New.trans hn.1 hnq, hp1 hn.2 hnq⟩
            refine hK.out _ _ (by first | exact hn | exact Upd.alloc hn _) (fun hn => ?_)
            clear hK K
            try simp only [Act.put, List.setIfInBounds_toArray, List.set_cons_zero, List.set_cons_succ]
            refine wpAnyH_ready (rs := [5]) (by kernel_rfl) (by simp) ?_
            refine AllReadyH.cons (o := { dst := some 62, op := Op.load 9 (Operand.tmp 61), type := 9, pos := "instr.go:64", after := #[{ on := 4, ground := Ground.data }, { on := 1, ground := Ground.guard }], guard := some (1, true) }) rfl (fun K hK => ?_) AllReadyH.nil
            have z9 := cellAt hbx 9 (v := .string raw) rfl
            go_simp
            refine hK.out _ _ (by first | exact hn | exact Upd.alloc hn _) (fun hn => ?_)
            clear hK K
            try simp only [Act.put, List.setIfInBounds_toArray, List.set_cons_zero, List.set_cons_succ]
            refine wpAnyH_take (i := 6) (oi := { dst := some 63, op := Op.call { callee := Callee.builtin Builtin.len, args := #[Operand.tmp 62], argTypes := #[9] }, type := 3, pos := "instr.go:64", after := #[{ on := 5, ground := Ground.data }, { on := 1, ground := Ground.guard }], guard := some (1, true) }) (v := ?v46x5) rfl (by kernel_rfl) (by kernel_rfl) (by kernel_rfl) (fun _ _ _ h => h) (Or.inl ⟨by rfl, ?y46x5⟩) hn ?r46x5
            case y46x5 => (intro wS hS; (try go_simp); (try with_reducible rfl))
            try simp only [Act.put, List.setIfInBounds_toArray, List.set_cons_zero, List.set_cons_succ]
            refine wpAnyH_ready (rs := [7]) (by kernel_rfl) (by simp) ?_
            refine AllReadyH.cons (o := { dst := some 64, op := Op.call { callee := Callee.value (Operand.func 32), args := #[Operand.tmp 60, Operand.tmp 63], argTypes := #[70, 3] }, type := 4, pos := "instr.go:64", after := #[{ on := 3, ground := Ground.data }, { on := 6, ground := Ground.data }, { on := 3, ground := Ground.chain }, { on := 1, ground := Ground.guard }], guard := some (1, true) }) rfl (fun K hK => ?_) AllReadyH.nil
            go_simp
            refine (HH2.out _).mono ?_
            rintro e wr ⟨rfl, hnq⟩
            go_wp2_with fail
            have hbx := hp1 hbx hnq
            have hn : (fun w' => New w w' ∧ w'.heap[wa.heap.size]? = some (.cells #[.int .i64 14, .int .i64 ln] 66)) wr := ⟨New.trans hn.1 hnq, hp1 hn.2 hnq⟩
            refine hK.out _ _ (by first | exact hn | exact Upd.alloc hn _) (fun hn => ?_)
            clear hK K
            try simp only [Act.put, List.setIfInBounds_toArray, List.set_cons_zero, List.set_cons_succ]
            refine wpAnyH_take (i := 8) (oi := { dst := some 65, op := Op.pick (Operand.tmp 58) (Operand.tmp 64) (Operand.const (Value.bool false)), type := 4, pos := "instr.go:64", after := #[{ on := 1, ground := Ground.data }, { on := 7, ground := Ground.data }], guard := none }) (v := ?v46x6) rfl (by kernel_rfl) (by kernel_rfl) (by kernel_rfl) (fun _ _ _ h => h) (Or.inl ⟨by rfl, ?y46x6⟩) hn ?r46x6
            case y46x6 => (intro wS hS; (try go_simp); (try with_reducible rfl))
            try simp only [Act.put, List.setIfInBounds_toArray, List.set_cons_zero, List.set_cons_succ]
            refine wpAnyH_take (i := 9) (oi := { dst := some 66, op := Op.move (Operand.tmp 65), type := 4, pos := "instr.go:64", after := #[{ on := 8, ground := Ground.data }, { on := 7, ground := Ground.chain }], guard := none }) (v := ?v46x7) rfl (by kernel_rfl) (by kernel_rfl) (by kernel_rfl) (fun _ _ _ h => h) (Or.inl ⟨by rfl, ?y46x7⟩) hn ?r46x7
            case y46x7 => (intro wS hS; (try go_simp); (try with_reducible rfl))
            try simp only [Act.put, List.setIfInBounds_toArray, List.set_cons_zero, List.set_cons_succ]
            refine wpAnyH_take (i := 10) (oi := { dst := some 67, op := Op.fieldAddr 66 (Operand.tmp 3) 0, type := 0, pos := "instr.go:64", after := #[{ on := 9, ground := Ground.guard }], guard := some (9, true) }) (v := ?v46x8) rfl (by kernel_rfl) (by kernel_rfl) (by kernel_rfl) (fun _ _ _ h => h) (Or.inl ⟨by rfl, ?y46x8⟩) hn ?r46x8
            case y46x8 => (intro wS hS; (try go_simp); (try with_reducible rfl))
            try simp only [Act.put, List.setIfInBounds_toArray, List.set_cons_zero, List.set_cons_succ]
            refine wpAnyH_take (i := 11) (oi := { dst := some 68, op := Op.load 3 (Operand.tmp 67), type := 3, pos := "instr.go:64", after := #[{ on := 10, ground := Ground.data }, { on := 9, ground := Ground.guard }], guard := some (9, true) }) (v := ?v46x9) rfl (by kernel_rfl) (by kernel_rfl) (by kernel_rfl) (fun _ _ _ h => h) (Or.inl ⟨by rfl, ?y46x9⟩) hn ?r46x9
            case y46x9 => (intro wS hS; have c0 := cellAt hS.2 0 rfl; (try go_simp); (try with_reducible rfl))
            try simp only [Act.put, List.setIfInBounds_toArray, List.set_cons_zero, List.set_cons_succ]
            refine wpAnyH_take (i := 12) (oi := { dst := some 69, op := Op.binOp BinOp.neq 3 (Operand.tmp 68) (Operand.const (Value.int IntKind.i64 14)) 3, type := 4, pos := "instr.go:64", after := #[{ on := 11, ground := Ground.data }, { on := 9, ground := Ground.guard }], guard := some (9, true) }) (v := ?v46x10) rfl (by kernel_rfl) (by kernel_rfl) (by kernel_rfl) (fun _ _ _ h => h) (Or.inl ⟨by rfl, ?y46x10⟩) hn ?r46x10
            case y46x10 => (intro wS hS; (try go_simp); (try with_reducible rfl))
            try simp only [Act.put, List.setIfInBounds_toArray, List.set_cons_zero, List.set_cons_succ]
            refine wpAnyH_take (i := 13) (oi := { dst := some 70, op := Op.move (Operand.tmp 69), type := 4, pos := "instr.go:64", after := #[{ on := 12, ground := Ground.data }, { on := 9, ground := Ground.chain }, { on := 9, ground := Ground.guard }], guard := some (9, true) }) (v := ?v46x11) rfl (by kernel_rfl) (by kernel_rfl) (by kernel_rfl) (fun _ _ _ h => h) (Or.inl ⟨by rfl, ?y46x11⟩) hn ?r46x11
            case y46x11 => (intro wS hS; (try go_simp); (try with_reducible rfl))
            try simp only [Act.put, List.setIfInBounds_toArray, List.set_cons_zero, List.set_cons_succ]
            refine wpAnyH_take (i := 14) (oi := { dst := some 71, op := Op.fieldAddr 34 (Operand.tmp 1) 6, type := 0, pos := "instr.go:64", after := #[{ on := 13, ground := Ground.guard }], guard := some (13, false) }) (v := ?v46x12) rfl (by kernel_rfl) (by kernel_rfl) (by kernel_rfl) (fun _ _ _ h => h) (Or.inl ⟨by rfl, ?y46x12⟩) hn ?r46x12
            case y46x12 => (intro wS hS; (try go_simp); (try with_reducible rfl))
            try simp only [Act.put, List.setIfInBounds_toArray, List.set_cons_zero, List.set_cons_succ]
            refine wpAnyH_ready (rs := [15]) (by kernel_rfl) (by simp) ?_
            refine AllReadyH.cons (o := { dst := some 72, op := Op.load 9 (Operand.tmp 71), type := 9, pos := "instr.go:64", after := #[{ on := 14, ground := Ground.data }, { on := 13, ground := Ground.guard }], guard := some (13, false) }) rfl (fun K hK => ?_) AllReadyH.nil
            have z9 := cellAt hbx 9 (v := .string raw) rfl
            go_simp
            refine hK.out _ _ (by first | exact hn | exact Upd.alloc hn _) (fun hn => ?_)
            clear hK K
            try simp only [Act.put, List.setIfInBounds_toArray, List.set_cons_zero, List.set_cons_succ]
            refine wpAnyH_ready (rs := [16]) (by kernel_rfl) (by simp) ?_
            refine AllReadyH.cons (o := { dst := some 73, op := Op.call { callee := Callee.value (Operand.func 33), args := #[Operand.tmp 72], argTypes := #[9] }, type := 4, pos := "instr.go:64", after := #[{ on := 15, ground := Ground.data }, { on := 13, ground := Ground.chain }, { on := 13, ground := Ground.guard }], guard := some (13, false) }) rfl (fun K hK => ?_) AllReadyH.nil
            go_simp
            refine (HSH.out _).mono ?_
            rintro e wt ⟨rfl, hnq⟩
            go_wp2_with fail
            have hbx := hp1 hbx hnq
            have hn : (fun w' => New w w' ∧ w'.heap[wa.heap.size]? = some (.cells #[.int .i64 14, .int .i64 ln] 66)) wt := ⟨New.trans hn.1 hnq, hp1 hn.2 hnq⟩
            refine hK.out _ _ (by first | exact hn | exact Upd.alloc hn _) (fun hn => ?_)
            clear hK K
            try simp only [Act.put, List.setIfInBounds_toArray, List.set_cons_zero, List.set_cons_succ]
            refine wpAnyH_take (i := 17) (oi := { dst := some 74, op := Op.pick (Operand.tmp 70) (Operand.const (Value.bool true)) (Operand.tmp 73), type := 4, pos := "instr.go:64", after := #[{ on := 13, ground := Ground.data }, { on := 16, ground := Ground.data }, { on := 9, ground := Ground.guard }], guard := some (9, true) }) (v := ?v46x13) rfl (by kernel_rfl) (by kernel_rfl) (by kernel_rfl) (fun _ _ _ h => h) (Or.inl ⟨by rfl, ?y46x13⟩) hn ?r46x13
            case y46x13 => (intro wS hS; (try go_simp); (try with_reducible rfl))
            try simp only [Act.put, List.setIfInBounds_toArray, List.set_cons_zero, List.set_cons_succ]
            refine wpAnyH_take (i := 18) (oi := { dst := some 75, op := Op.pick (Operand.tmp 66) (Operand.tmp 74) (Operand.const (Value.bool false)), type := 4, pos := "instr.go:64", after := #[{ on := 9, ground := Ground.data }, { on := 17, ground := Ground.data }], guard := none }) (v := ?v46x14) rfl (by kernel_rfl) (by kernel_rfl) (by kernel_rfl) (fun _ _ _ h => h) (Or.inl ⟨by rfl, ?y46x14⟩) hn ?r46x14
            case y46x14 => (intro wS hS; (try go_simp); (try with_reducible rfl))
            try simp only [Act.put, List.setIfInBounds_toArray, List.set_cons_zero, List.set_cons_succ]
            refine wpAnyH_take (i := 19) (oi := { dst := some 4, op := Op.assign (Operand.tmp 75), type := 4, pos := "instr.go:64", after := #[{ on := 18, ground := Ground.data }, { on := 16, ground := Ground.chain }, { on := 0, ground := Ground.phase }, { on := 1, ground := Ground.phase }, { on := 2, ground := Ground.phase }, { on := 3, ground := Ground.phase }, { on := 4, ground := Ground.phase }, { on := 5, ground := Ground.phase }, { on := 6, ground := Ground.phase }, { on := 7, ground := Ground.phase }, { on := 8, ground := Ground.phase }, { on := 9, ground := Ground.phase }, { on := 10, ground := Ground.phase }, { on := 11, ground := Ground.phase }, { on := 12, ground := Ground.phase }, { on := 13, ground := Ground.phase }, { on := 14, ground := Ground.phase }, { on := 15, ground := Ground.phase }, { on := 16, ground := Ground.phase }, { on := 17, ground := Ground.phase }, { on := 18, ground := Ground.phase }], guard := none }) (v := ?v46x15) rfl (by kernel_rfl) (by kernel_rfl) (by kernel_rfl) (fun _ _ _ h => h) (Or.inl ⟨by rfl, ?y46x15⟩) hn ?r46x15
            case y46x15 => (intro wS hS; (try go_simp); (try with_reducible rfl))
            try simp only [Act.put, List.setIfInBounds_toArray, List.set_cons_zero, List.set_cons_succ]
            refine wpAnyH_take (i := 20) (oi := { dst := some 76, op := Op.fieldAddr 34 (Operand.tmp 1) 6, type := 0, pos := "instr.go:64", after := #[{ on := 0, ground := Ground.phase }, { on := 1, ground := Ground.phase }, { on := 2, ground := Ground.phase }, { on := 3, ground := Ground.phase }, { on := 4, ground := Ground.phase }, { on := 5, ground := Ground.phase }, { on := 6, ground := Ground.phase }, { on := 7, ground := Ground.phase }, { on := 8, ground := Ground.phase }, { on := 9, ground := Ground.phase }, { on := 10, ground := Ground.phase }, { on := 11, ground := Ground.phase }, { on := 12, ground := Ground.phase }, { on := 13, ground := Ground.phase }, { on := 14, ground := Ground.phase }, { on := 15, ground := Ground.phase }, { on := 16, ground := Ground.phase }, { on := 17, ground := Ground.phase }, { on := 18, ground := Ground.phase }, { on := 19, ground := Ground.phase }], guard := none }) (v := ?v46x16) rfl (by kernel_rfl) (by kernel_rfl) (by kernel_rfl) (fun _ _ _ h => h) (Or.inl ⟨by rfl, ?y46x16⟩) hn ?r46x16
            case y46x16 => (intro wS hS; (try go_simp); (try with_reducible rfl))
            try simp only [Act.put, List.setIfInBounds_toArray, List.set_cons_zero, List.set_cons_succ]
            refine wpAnyH_ready (rs := [21]) (by kernel_rfl) (by simp) ?_
            refine AllReadyH.cons (o := { dst := none, op := Op.store 9 (Operand.tmp 76) (Operand.const (Value.string { data := #[] })), type := 0, pos := "instr.go:64", after := #[{ on := 20, ground := Ground.data }, { on := 19, ground := Ground.chain }, { on := 0, ground := Ground.phase }, { on := 1, ground := Ground.phase }, { on := 2, ground := Ground.phase }, { on := 3, ground := Ground.phase }, { on := 4, ground := Ground.phase }, { on := 5, ground := Ground.phase }, { on := 6, ground := Ground.phase }, { on := 7, ground := Ground.phase }, { on := 8, ground := Ground.phase }, { on := 9, ground := Ground.phase }, { on := 10, ground := Ground.phase }, { on := 11, ground := Ground.phase }, { on := 12, ground := Ground.phase }, { on := 13, ground := Ground.phase }, { on := 14, ground := Ground.phase }, { on := 15, ground := Ground.phase }, { on := 16, ground := Ground.phase }, { on := 17, ground := Ground.phase }, { on := 18, ground := Ground.phase }, { on := 19, ground := Ground.phase }], guard := none }) rfl (fun K hK => ?_) AllReadyH.nil
            have z9 := cellAt hbx 9 (v := .string raw) rfl
            have f9 := frozenAt hbx 9
            go_simp
            have hbx := hp_set hbx 9 (.string ⟨#[]⟩)
            have hn : (fun w' => New w w' ∧ w'.heap[wa.heap.size]? = some (.cells #[.int .i64 14, .int .i64 ln] 66)) (wt.setCell ⟨w.heap.size, 9, none⟩ (.string ⟨#[]⟩)) := ⟨setNew hn.1 9 _, hp_other hn.2 HNE.out⟩
            refine hK.out _ _ (by first | exact hn | exact Upd.alloc hn _) (fun hn => ?_)
            clear hK K
            try simp only [Act.put, List.setIfInBounds_toArray, List.set_cons_zero, List.set_cons_succ]
            refine wpAnyH_done (by kernel_rfl) ?_ _
            refine NoPanic.normal ?_
            go_wp2_with fail
            go_meet
            exact ⟨_, (.slice al li.length cl), (.slice au (lb ty).length cu), rfl, (by have h : raw.size = 16 := (by have := has_eq HBH.out; omega); simp [ownQ, h, small]), hbx, hn.1, HL.out.new hn.1, HU.out.new hn.1⟩
          refine AllReadyH.cons (o := { dst := some 62, op := Op.load 9 (Operand.tmp 61), type := 9, pos := "instr.go:64", after := #[{ on := 4, ground := Ground.data }, { on := 1, ground := Ground.guard }], guard := some (1, true) }) rfl (fun K hK => ?_) AllReadyH.nil
          have z9 := cellAt hbx 9 (v := .string raw) rfl
          go_simp
          refine hK.out _ _ (by first | exact hn | exact Upd.alloc hn _) (fun hn => ?_)
          clear hK K
          try simp only [Act.put, List.setIfInBounds_toArray, List.set_cons_zero, List.set_cons_succ]
          refine wpAnyH_take (i := 6) (oi := { dst := some 63, op := Op.call { callee := Callee.builtin Builtin.len, args := #[Operand.tmp 62], argTypes := #[9] }, type := 3, pos := "instr.go:64", after := #[{ on := 5, ground := Ground.data }, { on := 1, ground := Ground.guard }], guard := some (1, true) }) (v := ?v46x17) rfl (by kernel_rfl) (by kernel_rfl) (by kernel_rfl) (fun _ _ _ h => h) (Or.inl ⟨by rfl, ?y46x17⟩) hn ?r46x17
          case y46x17 => (intro wS hS; (try go_simp); (try with_reducible rfl))
          try simp only [Act.put, List.setIfInBounds_toArray, List.set_cons_zero, List.set_cons_succ]
          refine wpAnyH_ready (rs := [3]) (by kernel_rfl) (by simp) ?_
          refine AllReadyH.cons (o := { dst := some 60, op := Op.call { callee := Callee.value (Operand.func 31), args := #[Operand.tmp 59], argTypes := #[66] }, type := 70, pos := "instr.go:64", after := #[{ on := 2, ground := Ground.data }, { on := 1, ground := Ground.chain }, { on := 1, ground := Ground.guard }], guard := some (1, true) }) rfl (fun K hK => ?_) AllReadyH.nil
          go_simp
          refine (HS2.out _ _).mono ?_
          rintro e wq ⟨rfl, hnq⟩
          go_wp2_with fail
          have hbx := hp1 hbx hnq
          have hn : (fun w' => New w w' ∧ w'.heap[wa.heap.size]? = some (.cells #[.int .i64 14, .int .i64 ln] 66)) wq := ⟨New.trans hn.1 hnq, hp1 hn.2 hnq⟩
          refine hK.out _ _ (by first | exact hn | exact Upd.alloc hn _) (fun hn => ?_)
          clear hK K
          try simp only [Act.put, List.setIfInBounds_toArray, List.set_cons_zero, List.set_cons_succ]
          refine wpAnyH_ready (rs := [7]) (by kernel_rfl) (by simp) ?_
          refine AllReadyH.cons (o := { dst := some 64, op := Op.call { callee := Callee.value (Operand.func 32), args := #[Operand.tmp 60, Operand.tmp 63], argTypes := #[70, 3] }, type := 4, pos := "instr.go:64", after := #[{ on := 3, ground := Ground.data }, { on := 6, ground := Ground.data }, { on := 3, ground := Ground.chain }, { on := 1, ground := Ground.guard }], guard := some (1, true) }) rfl (fun K hK => ?_) AllReadyH.nil
          go_simp
          refine (HH2.out _).mono ?_
          rintro e wr ⟨rfl, hnq⟩
          go_wp2_with fail
          have hbx := hp1 hbx hnq
          have hn : (fun w' => New w w' ∧ w'.heap[wa.heap.size]? = some (.cells #[.int .i64 14, .int .i64 ln] 66)) wr := ⟨New.trans hn.1 hnq, hp1 hn.2 hnq⟩
          refine hK.out _ _ (by first | exact hn | exact Upd.alloc hn _) (fun hn => ?_)
          clear hK K
          try simp only [Act.put, List.setIfInBounds_toArray, List.set_cons_zero, List.set_cons_succ]
          refine wpAnyH_take (i := 8) (oi := { dst := some 65, op := Op.pick (Operand.tmp 58) (Operand.tmp 64) (Operand.const (Value.bool false)), type := 4, pos := "instr.go:64", after := #[{ on := 1, ground := Ground.data }, { on := 7, ground := Ground.data }], guard := none }) (v := ?v46x18) rfl (by kernel_rfl) (by kernel_rfl) (by kernel_rfl) (fun _ _ _ h => h) (Or.inl ⟨by rfl, ?y46x18⟩) hn ?r46x18
          case y46x18 => (intro wS hS; (try go_simp); (try with_reducible rfl))
          try simp only [Act.put, List.setIfInBounds_toArray, List.set_cons_zero, List.set_cons_succ]
          refine wpAnyH_take (i := 9) (oi := { dst := some 66, op := Op.move (Operand.tmp 65), type := 4, pos := "instr.go:64", after := #[{ on := 8, ground := Ground.data }, { on := 7, ground := Ground.chain }], guard := none }) (v := ?v46x19) rfl (by kernel_rfl) (by kernel_rfl) (by kernel_rfl) (fun _ _ _ h => h) (Or.inl ⟨by rfl, ?y46x19⟩) hn ?r46x19
          case y46x19 => (intro wS hS; (try go_simp); (try with_reducible rfl))
          try simp only [Act.put, List.setIfInBounds_toArray, List.set_cons_zero, List.set_cons_succ]
          refine wpAnyH_take (i := 10) (oi := { dst := some 67, op := Op.fieldAddr 66 (Operand.tmp 3) 0, type := 0, pos := "instr.go:64", after := #[{ on := 9, ground := Ground.guard }], guard := some (9, true) }) (v := ?v46x20) rfl (by kernel_rfl) (by kernel_rfl) (by kernel_rfl) (fun _ _ _ h => h) (Or.inl ⟨by rfl, ?y46x20⟩) hn ?r46x20
          case y46x20 => (intro wS hS; (try go_simp); (try with_reducible rfl))
          try simp only [Act.put, List.setIfInBounds_toArray, List.set_cons_zero, List.set_cons_succ]
          refine wpAnyH_take (i := 11) (oi := { dst := some 68, op := Op.load 3 (Operand.tmp 67), type := 3, pos := "instr.go:64", after := #[{ on := 10, ground := Ground.data }, { on := 9, ground := Ground.guard }], guard := some (9, true) }) (v := ?v46x21) rfl (by kernel_rfl) (by kernel_rfl) (by kernel_rfl) (fun _ _ _ h => h) (Or.inl ⟨by rfl, ?y46x21⟩) hn ?r46x21
          case y46x21 => (intro wS hS; have c0 := cellAt hS.2 0 rfl; (try go_simp); (try with_reducible rfl))
          try simp only [Act.put, List.setIfInBounds_toArray, List.set_cons_zero, List.set_cons_succ]
          refine wpAnyH_take (i := 12) (oi := { dst := some 69, op := Op.binOp BinOp.neq 3 (Operand.tmp 68) (Operand.const (Value.int IntKind.i64 14)) 3, type := 4, pos := "instr.go:64", after := #[{ on := 11, ground := Ground.data }, { on := 9, ground := Ground.guard }], guard := some (9, true) }) (v := ?v46x22) rfl (by kernel_rfl) (by kernel_rfl) (by kernel_rfl) (fun _ _ _ h => h) (Or.inl ⟨by rfl, ?y46x22⟩) hn ?r46x22
          case y46x22 => (intro wS hS; (try go_simp); (try with_reducible rfl))
          try simp only [Act.put, List.setIfInBounds_toArray, List.set_cons_zero, List.set_cons_succ]
          refine wpAnyH_take (i := 13) (oi := { dst := some 70, op := Op.move (Operand.tmp 69), type := 4, pos := "instr.go:64", after := #[{ on := 12, ground := Ground.data }, { on := 9, ground := Ground.chain }, { on := 9, ground := Ground.guard }], guard := some (9, true) }) (v := ?v46x23) rfl (by kernel_rfl) (by kernel_rfl) (by kernel_rfl) (fun _ _ _ h => h) (Or.inl ⟨by rfl, ?y46x23⟩) hn ?r46x23
          case y46x23 => (intro wS hS; (try go_simp); (try with_reducible rfl))
          try simp only [Act.put, List.setIfInBounds_toArray, List.set_cons_zero, List.set_cons_succ]
          refine wpAnyH_take (i := 14) (oi := { dst := some 71, op := Op.fieldAddr 34 (Operand.tmp 1) 6, type := 0, pos := "instr.go:64", after := #[{ on := 13, ground := Ground.guard }], guard := some (13, false) }) (v := ?v46x24) rfl (by kernel_rfl) (by kernel_rfl) (by kernel_rfl) (fun _ _ _ h => h) (Or.inl ⟨by rfl, ?y46x24⟩) hn ?r46x24
          case y46x24 => (intro wS hS; (try go_simp); (try with_reducible rfl))
          try simp only [Act.put, List.setIfInBounds_toArray, List.set_cons_zero, List.set_cons_succ]
          refine wpAnyH_ready (rs := [15]) (by kernel_rfl) (by simp) ?_
          refine AllReadyH.cons (o := { dst := some 72, op := Op.load 9 (Operand.tmp 71), type := 9, pos := "instr.go:64", after := #[{ on := 14, ground := Ground.data }, { on := 13, ground := Ground.guard }], guard := some (13, false) }) rfl (fun K hK => ?_) AllReadyH.nil
          have z9 := cellAt hbx 9 (v := .string raw) rfl
          go_simp
          refine hK.out _ _ (by first | exact hn | exact Upd.alloc hn _) (fun hn => ?_)
          clear hK K
          try simp only [Act.put, List.setIfInBounds_toArray, List.set_cons_zero, List.set_cons_succ]
          refine wpAnyH_ready (rs := [16]) (by kernel_rfl) (by simp) ?_
          refine AllReadyH.cons (o := { dst := some 73, op := Op.call { callee := Callee.value (Operand.func 33), args := #[Operand.tmp 72], argTypes := #[9] }, type := 4, pos := "instr.go:64", after := #[{ on := 15, ground := Ground.data }, { on := 13, ground := Ground.chain }, { on := 13, ground := Ground.guard }], guard := some (13, false) }) rfl (fun K hK => ?_) AllReadyH.nil
          go_simp
          refine (HSH.out _).mono ?_
          rintro e wt ⟨rfl, hnq⟩
          go_wp2_with fail
          have hbx := hp1 hbx hnq
          have hn : (fun w' => New w w' ∧ w'.heap[wa.heap.size]? = some (.cells #[.int .i64 14, .int .i64 ln] 66)) wt := ⟨New.trans hn.1 hnq, hp1 hn.2 hnq⟩
          refine hK.out _ _ (by first | exact hn | exact Upd.alloc hn _) (fun hn => ?_)
          clear hK K
          try simp only [Act.put, List.setIfInBounds_toArray, List.set_cons_zero, List.set_cons_succ]
          refine wpAnyH_take (i := 17) (oi := { dst := some 74, op := Op.pick (Operand.tmp 70) (Operand.const (Value.bool true)) (Operand.tmp 73), type := 4, pos := "instr.go:64", after := #[{ on := 13, ground := Ground.data }, { on := 16, ground := Ground.data }, { on := 9, ground := Ground.guard }], guard := some (9, true) }) (v := ?v46x25) rfl (by kernel_rfl) (by kernel_rfl) (by kernel_rfl) (fun _ _ _ h => h) (Or.inl ⟨by rfl, ?y46x25⟩) hn ?r46x25
          case y46x25 => (intro wS hS; (try go_simp); (try with_reducible rfl))
          try simp only [Act.put, List.setIfInBounds_toArray, List.set_cons_zero, List.set_cons_succ]
          refine wpAnyH_take (i := 18) (oi := { dst := some 75, op := Op.pick (Operand.tmp 66) (Operand.tmp 74) (Operand.const (Value.bool false)), type := 4, pos := "instr.go:64", after := #[{ on := 9, ground := Ground.data }, { on := 17, ground := Ground.data }], guard := none }) (v := ?v46x26) rfl (by kernel_rfl) (by kernel_rfl) (by kernel_rfl) (fun _ _ _ h => h) (Or.inl ⟨by rfl, ?y46x26⟩) hn ?r46x26
          case y46x26 => (intro wS hS; (try go_simp); (try with_reducible rfl))
          try simp only [Act.put, List.setIfInBounds_toArray, List.set_cons_zero, List.set_cons_succ]
          refine wpAnyH_take (i := 19) (oi := { dst := some 4, op := Op.assign (Operand.tmp 75), type := 4, pos := "instr.go:64", after := #[{ on := 18, ground := Ground.data }, { on := 16, ground := Ground.chain }, { on := 0, ground := Ground.phase }, { on := 1, ground := Ground.phase }, { on := 2, ground := Ground.phase }, { on := 3, ground := Ground.phase }, { on := 4, ground := Ground.phase }, { on := 5, ground := Ground.phase }, { on := 6, ground := Ground.phase }, { on := 7, ground := Ground.phase }, { on := 8, ground := Ground.phase }, { on := 9, ground := Ground.phase }, { on := 10, ground := Ground.phase }, { on := 11, ground := Ground.phase }, { on := 12, ground := Ground.phase }, { on := 13, ground := Ground.phase }, { on := 14, ground := Ground.phase }, { on := 15, ground := Ground.phase }, { on := 16, ground := Ground.phase }, { on := 17, ground := Ground.phase }, { on := 18, ground := Ground.phase }], guard := none }) (v := ?v46x27) rfl (by kernel_rfl) (by kernel_rfl) (by kernel_rfl) (fun _ _ _ h => h) (Or.inl ⟨by rfl, ?y46x27⟩) hn ?r46x27
          case y46x27 => (intro wS hS; (try go_simp); (try with_reducible rfl))
          try simp only [Act.put, List.setIfInBounds_toArray, List.set_cons_zero, List.set_cons_succ]
          refine wpAnyH_take (i := 20) (oi := { dst := some 76, op := Op.fieldAddr 34 (Operand.tmp 1) 6, type := 0, pos := "instr.go:64", after := #[{ on := 0, ground := Ground.phase }, { on := 1, ground := Ground.phase }, { on := 2, ground := Ground.phase }, { on := 3, ground := Ground.phase }, { on := 4, ground := Ground.phase }, { on := 5, ground := Ground.phase }, { on := 6, ground := Ground.phase }, { on := 7, ground := Ground.phase }, { on := 8, ground := Ground.phase }, { on := 9, ground := Ground.phase }, { on := 10, ground := Ground.phase }, { on := 11, ground := Ground.phase }, { on := 12, ground := Ground.phase }, { on := 13, ground := Ground.phase }, { on := 14, ground := Ground.phase }, { on := 15, ground := Ground.phase }, { on := 16, ground := Ground.phase }, { on := 17, ground := Ground.phase }, { on := 18, ground := Ground.phase }, { on := 19, ground := Ground.phase }], guard := none }) (v := ?v46x28) rfl (by kernel_rfl) (by kernel_rfl) (by kernel_rfl) (fun _ _ _ h => h) (Or.inl ⟨by rfl, ?y46x28⟩) hn ?r46x28
          case y46x28 => (intro wS hS; (try go_simp); (try with_reducible rfl))
          try simp only [Act.put, List.setIfInBounds_toArray, List.set_cons_zero, List.set_cons_succ]
          refine wpAnyH_ready (rs := [21]) (by kernel_rfl) (by simp) ?_
          refine AllReadyH.cons (o := { dst := none, op := Op.store 9 (Operand.tmp 76) (Operand.const (Value.string { data := #[] })), type := 0, pos := "instr.go:64", after := #[{ on := 20, ground := Ground.data }, { on := 19, ground := Ground.chain }, { on := 0, ground := Ground.phase }, { on := 1, ground := Ground.phase }, { on := 2, ground := Ground.phase }, { on := 3, ground := Ground.phase }, { on := 4, ground := Ground.phase }, { on := 5, ground := Ground.phase }, { on := 6, ground := Ground.phase }, { on := 7, ground := Ground.phase }, { on := 8, ground := Ground.phase }, { on := 9, ground := Ground.phase }, { on := 10, ground := Ground.phase }, { on := 11, ground := Ground.phase }, { on := 12, ground := Ground.phase }, { on := 13, ground := Ground.phase }, { on := 14, ground := Ground.phase }, { on := 15, ground := Ground.phase }, { on := 16, ground := Ground.phase }, { on := 17, ground := Ground.phase }, { on := 18, ground := Ground.phase }, { on := 19, ground := Ground.phase }], guard := none }) rfl (fun K hK => ?_) AllReadyH.nil
          have z9 := cellAt hbx 9 (v := .string raw) rfl
          have f9 := frozenAt hbx 9
          go_simp
          have hbx := hp_set hbx 9 (.string ⟨#[]⟩)
          have hn : (fun w' => New w w' ∧ w'.heap[wa.heap.size]? = some (.cells #[.int .i64 14, .int .i64 ln] 66)) (wt.setCell ⟨w.heap.size, 9, none⟩ (.string ⟨#[]⟩)) := ⟨setNew hn.1 9 _, hp_other hn.2 HNE.out⟩
          refine hK.out _ _ (by first | exact hn | exact Upd.alloc hn _) (fun hn => ?_)
          clear hK K
          try simp only [Act.put, List.setIfInBounds_toArray, List.set_cons_zero, List.set_cons_succ]
          refine wpAnyH_done (by kernel_rfl) ?_ _
          refine NoPanic.normal ?_
          go_wp2_with fail
          go_meet
          exact ⟨_, (.slice al li.length cl), (.slice au (lb ty).length cu), rfl, (by have h : raw.size = 16 := (by have := has_eq HBH.out; omega); simp [ownQ, h, small]), hbx, hn.1, HL.out.new hn.1, HU.out.new hn.1⟩
        | false =>
          have hn : (fun w' => New w w' ∧ w'.heap[wa.heap.size]? = some (.cells #[.int .i64 14, .int .i64 ln] 66)) wb.drew := ⟨HN.out.drew, HI.out⟩
          have hbx : Box wb.drew w.heap.size ⟨p, c, k, t, i, x, y, li, n, raw, lane, ty⟩ (.slice al li.length cl) (.slice au (lb ty).length cu) := HB.out
          clear y0 y1 z9 f9
          go_wp2_with fail
          refine wp_region_noPanic ?_
          refine wp_region_held_drew (S := (fun w' => New w w' ∧ w'.heap[wa.heap.size]? = some (.cells #[.int .i64 14, .int .i64 ln] 66))) (by kernel_rfl) (by first | exact hn | exact (Upd.refl _ _).drew | exact Upd.drew (by assumption)) (fun hn => ?_)
          generalize wb.drew = wd at *
          refine wpAnyH_take (i := 0) (oi := { dst := some 57, op := Op.move (Operand.tmp 4), type := 4, pos := "instr.go:64", after := #[], guard := none }) (v := ?v47x1) rfl (by kernel_rfl) (by kernel_rfl) (by kernel_rfl) (fun _ _ _ h => h) (Or.inl ⟨by rfl, ?y47x1⟩) hn ?r47x1
          case y47x1 => (intro wS hS; (try go_simp); (try with_reducible rfl))
          try simp only [Act.put, List.setIfInBounds_toArray, List.set_cons_zero, List.set_cons_succ]
          refine wpAnyH_take (i := 1) (oi := { dst := some 58, op := Op.move (Operand.tmp 57), type := 4, pos := "instr.go:64", after := #[{ on := 0, ground := Ground.data }], guard := none }) (v := ?v47x2) rfl (by kernel_rfl) (by kernel_rfl) (by kernel_rfl) (fun _ _ _ h => h) (Or.inl ⟨by rfl, ?y47x2⟩) hn ?r47x2
          case y47x2 => (intro wS hS; (try go_simp); (try with_reducible rfl))
          try simp only [Act.put, List.setIfInBounds_toArray, List.set_cons_zero, List.set_cons_succ]
          refine wpAnyH_take (i := 2) (oi := { dst := some 59, op := Op.load 66 (Operand.tmp 3), type := 66, pos := "instr.go:64", after := #[{ on := 1, ground := Ground.guard }], guard := some (1, true) }) (v := ?v47x3) rfl (by kernel_rfl) (by kernel_rfl) (by kernel_rfl) (fun _ _ _ h => h) (Or.inl ⟨by rfl, ?y47x3⟩) hn ?r47x3
          case y47x3 => (intro wS hS; have c0 := cellAt hS.2 0 rfl; have c1 := cellAt hS.2 1 rfl; (try go_simp); (try with_reducible rfl))
          try simp only [Act.put, List.setIfInBounds_toArray, List.set_cons_zero, List.set_cons_succ]
          refine wpAnyH_take (i := 4) (oi := { dst := some 61, op := Op.fieldAddr 34 (Operand.tmp 1) 6, type := 0, pos := "instr.go:64", after := #[{ on := 1, ground := Ground.guard }], guard := some (1, true) }) (v := ?v47x4) rfl (by kernel_rfl) (by kernel_rfl) (by kernel_rfl) (fun _ _ _ h => h) (Or.inl ⟨by rfl, ?y47x4⟩) hn ?r47x4
          case y47x4 => (intro wS hS; (try go_simp); (try with_reducible rfl))
          try simp only [Act.put, List.setIfInBounds_toArray, List.set_cons_zero, List.set_cons_succ]
          refine wpAnyH_ready (rs := [3, 5]) (by kernel_rfl) (by simp) ?_
          refine AllReadyH.cons (o := { dst := some 60, op := Op.call { callee := Callee.value (Operand.func 31), args := #[Operand.tmp 59], argTypes := #[66] }, type := 70, pos := "instr.go:64", after := #[{ on := 2, ground := Ground.data }, { on := 1, ground := Ground.chain }, { on := 1, ground := Ground.guard }], guard := some (1, true) }) rfl (fun K hK => ?_) ?_
          · skip
            go_simp
            refine (HS2.out _ _).mono ?_
            rintro e wq ⟨rfl, hnq⟩
            go_wp2_with fail
            have hbx := hp1 hbx hnq
            have hn : (fun w' => New w w' ∧ w'.heap[wa.heap.size]? = some (.cells #[.int .i64 14, .int .i64 ln] 66)) wq := ⟨New.trans hn.1 hnq, hp1 hn.2 hnq⟩
            refine hK.out _ _ (by first | exact hn | exact Upd.alloc hn _) (fun hn => ?_)
            clear hK K
            try simp only [Act.put, List.setIfInBounds_toArray, List.set_cons_zero, List.set_cons_succ]
            refine wpAnyH_ready (rs := [5]) (by kernel_rfl) (by simp) ?_
            refine AllReadyH.cons (o := { dst := some 62, op := Op.load 9 (Operand.tmp 61), type := 9, pos := "instr.go:64", after := #[{ on := 4, ground := Ground.data }, { on := 1, ground := Ground.guard }], guard := some (1, true) }) rfl (fun K hK => ?_) AllReadyH.nil
            have z9 := cellAt hbx 9 (v := .string raw) rfl
            go_simp
            refine hK.out _ _ (by first | exact hn | exact Upd.alloc hn _) (fun hn => ?_)
            clear hK K
            try simp only [Act.put, List.setIfInBounds_toArray, List.set_cons_zero, List.set_cons_succ]
            refine wpAnyH_take (i := 6) (oi := { dst := some 63, op := Op.call { callee := Callee.builtin Builtin.len, args := #[Operand.tmp 62], argTypes := #[9] }, type := 3, pos := "instr.go:64", after := #[{ on := 5, ground := Ground.data }, { on := 1, ground := Ground.guard }], guard := some (1, true) }) (v := ?v47x5) rfl (by kernel_rfl) (by kernel_rfl) (by kernel_rfl) (fun _ _ _ h => h) (Or.inl ⟨by rfl, ?y47x5⟩) hn ?r47x5
            case y47x5 => (intro wS hS; (try go_simp); (try with_reducible rfl))
            try simp only [Act.put, List.setIfInBounds_toArray, List.set_cons_zero, List.set_cons_succ]
            refine wpAnyH_ready (rs := [7]) (by kernel_rfl) (by simp) ?_
            refine AllReadyH.cons (o := { dst := some 64, op := Op.call { callee := Callee.value (Operand.func 32), args := #[Operand.tmp 60, Operand.tmp 63], argTypes := #[70, 3] }, type := 4, pos := "instr.go:64", after := #[{ on := 3, ground := Ground.data }, { on := 6, ground := Ground.data }, { on := 3, ground := Ground.chain }, { on := 1, ground := Ground.guard }], guard := some (1, true) }) rfl (fun K hK => ?_) AllReadyH.nil
            go_simp
            refine (HH2.out _).mono ?_
            rintro e wr ⟨rfl, hnq⟩
            go_wp2_with fail
            have hbx := hp1 hbx hnq
            have hn : (fun w' => New w w' ∧ w'.heap[wa.heap.size]? = some (.cells #[.int .i64 14, .int .i64 ln] 66)) wr := ⟨New.trans hn.1 hnq, hp1 hn.2 hnq⟩
            refine hK.out _ _ (by first | exact hn | exact Upd.alloc hn _) (fun hn => ?_)
            clear hK K
            try simp only [Act.put, List.setIfInBounds_toArray, List.set_cons_zero, List.set_cons_succ]
            refine wpAnyH_take (i := 8) (oi := { dst := some 65, op := Op.pick (Operand.tmp 58) (Operand.tmp 64) (Operand.const (Value.bool false)), type := 4, pos := "instr.go:64", after := #[{ on := 1, ground := Ground.data }, { on := 7, ground := Ground.data }], guard := none }) (v := ?v47x6) rfl (by kernel_rfl) (by kernel_rfl) (by kernel_rfl) (fun _ _ _ h => h) (Or.inl ⟨by rfl, ?y47x6⟩) hn ?r47x6
            case y47x6 => (intro wS hS; (try go_simp); (try with_reducible rfl))
            try simp only [Act.put, List.setIfInBounds_toArray, List.set_cons_zero, List.set_cons_succ]
            refine wpAnyH_take (i := 9) (oi := { dst := some 66, op := Op.move (Operand.tmp 65), type := 4, pos := "instr.go:64", after := #[{ on := 8, ground := Ground.data }, { on := 7, ground := Ground.chain }], guard := none }) (v := ?v47x7) rfl (by kernel_rfl) (by kernel_rfl) (by kernel_rfl) (fun _ _ _ h => h) (Or.inl ⟨by rfl, ?y47x7⟩) hn ?r47x7
            case y47x7 => (intro wS hS; (try go_simp); (try with_reducible rfl))
            try simp only [Act.put, List.setIfInBounds_toArray, List.set_cons_zero, List.set_cons_succ]
            refine wpAnyH_take (i := 10) (oi := { dst := some 67, op := Op.fieldAddr 66 (Operand.tmp 3) 0, type := 0, pos := "instr.go:64", after := #[{ on := 9, ground := Ground.guard }], guard := some (9, true) }) (v := undef) rfl (by kernel_rfl) (by kernel_rfl) (by kernel_rfl) (fun _ _ _ h => h) (Or.inr ⟨by rfl, rfl⟩) hn ?_
            try simp only [Act.put, List.setIfInBounds_toArray, List.set_cons_zero, List.set_cons_succ]
            refine wpAnyH_take (i := 11) (oi := { dst := some 68, op := Op.load 3 (Operand.tmp 67), type := 3, pos := "instr.go:64", after := #[{ on := 10, ground := Ground.data }, { on := 9, ground := Ground.guard }], guard := some (9, true) }) (v := undef) rfl (by kernel_rfl) (by kernel_rfl) (by kernel_rfl) (fun _ _ _ h => h) (Or.inr ⟨by rfl, rfl⟩) hn ?_
            try simp only [Act.put, List.setIfInBounds_toArray, List.set_cons_zero, List.set_cons_succ]
            refine wpAnyH_take (i := 12) (oi := { dst := some 69, op := Op.binOp BinOp.neq 3 (Operand.tmp 68) (Operand.const (Value.int IntKind.i64 14)) 3, type := 4, pos := "instr.go:64", after := #[{ on := 11, ground := Ground.data }, { on := 9, ground := Ground.guard }], guard := some (9, true) }) (v := undef) rfl (by kernel_rfl) (by kernel_rfl) (by kernel_rfl) (fun _ _ _ h => h) (Or.inr ⟨by rfl, rfl⟩) hn ?_
            try simp only [Act.put, List.setIfInBounds_toArray, List.set_cons_zero, List.set_cons_succ]
            refine wpAnyH_take (i := 13) (oi := { dst := some 70, op := Op.move (Operand.tmp 69), type := 4, pos := "instr.go:64", after := #[{ on := 12, ground := Ground.data }, { on := 9, ground := Ground.chain }, { on := 9, ground := Ground.guard }], guard := some (9, true) }) (v := undef) rfl (by kernel_rfl) (by kernel_rfl) (by kernel_rfl) (fun _ _ _ h => h) (Or.inr ⟨by rfl, rfl⟩) hn ?_
            try simp only [Act.put, List.setIfInBounds_toArray, List.set_cons_zero, List.set_cons_succ]
            refine wpAnyH_take (i := 14) (oi := { dst := some 71, op := Op.fieldAddr 34 (Operand.tmp 1) 6, type := 0, pos := "instr.go:64", after := #[{ on := 13, ground := Ground.guard }], guard := some (13, false) }) (v := undef) rfl (by kernel_rfl) (by kernel_rfl) (by kernel_rfl) (fun _ _ _ h => h) (Or.inr ⟨by rfl, rfl⟩) hn ?_
            try simp only [Act.put, List.setIfInBounds_toArray, List.set_cons_zero, List.set_cons_succ]
            refine wpAnyH_take (i := 15) (oi := { dst := some 72, op := Op.load 9 (Operand.tmp 71), type := 9, pos := "instr.go:64", after := #[{ on := 14, ground := Ground.data }, { on := 13, ground := Ground.guard }], guard := some (13, false) }) (v := undef) rfl (by kernel_rfl) (by kernel_rfl) (by kernel_rfl) (fun _ _ _ h => h) (Or.inr ⟨by rfl, rfl⟩) hn ?_
            try simp only [Act.put, List.setIfInBounds_toArray, List.set_cons_zero, List.set_cons_succ]
            refine wpAnyH_take (i := 16) (oi := { dst := some 73, op := Op.call { callee := Callee.value (Operand.func 33), args := #[Operand.tmp 72], argTypes := #[9] }, type := 4, pos := "instr.go:64", after := #[{ on := 15, ground := Ground.data }, { on := 13, ground := Ground.chain }, { on := 13, ground := Ground.guard }], guard := some (13, false) }) (v := undef) rfl (by kernel_rfl) (by kernel_rfl) (by kernel_rfl) (fun _ _ _ h => h) (Or.inr ⟨by rfl, rfl⟩) hn ?_
            try simp only [Act.put, List.setIfInBounds_toArray, List.set_cons_zero, List.set_cons_succ]
            refine wpAnyH_take (i := 17) (oi := { dst := some 74, op := Op.pick (Operand.tmp 70) (Operand.const (Value.bool true)) (Operand.tmp 73), type := 4, pos := "instr.go:64", after := #[{ on := 13, ground := Ground.data }, { on := 16, ground := Ground.data }, { on := 9, ground := Ground.guard }], guard := some (9, true) }) (v := undef) rfl (by kernel_rfl) (by kernel_rfl) (by kernel_rfl) (fun _ _ _ h => h) (Or.inr ⟨by rfl, rfl⟩) hn ?_
            try simp only [Act.put, List.setIfInBounds_toArray, List.set_cons_zero, List.set_cons_succ]
            refine wpAnyH_take (i := 18) (oi := { dst := some 75, op := Op.pick (Operand.tmp 66) (Operand.tmp 74) (Operand.const (Value.bool false)), type := 4, pos := "instr.go:64", after := #[{ on := 9, ground := Ground.data }, { on := 17, ground := Ground.data }], guard := none }) (v := ?v47x16) rfl (by kernel_rfl) (by kernel_rfl) (by kernel_rfl) (fun _ _ _ h => h) (Or.inl ⟨by rfl, ?y47x16⟩) hn ?r47x16
            case y47x16 => (intro wS hS; (try go_simp); (try with_reducible rfl))
            try simp only [Act.put, List.setIfInBounds_toArray, List.set_cons_zero, List.set_cons_succ]
            refine wpAnyH_take (i := 19) (oi := { dst := some 4, op := Op.assign (Operand.tmp 75), type := 4, pos := "instr.go:64", after := #[{ on := 18, ground := Ground.data }, { on := 16, ground := Ground.chain }, { on := 0, ground := Ground.phase }, { on := 1, ground := Ground.phase }, { on := 2, ground := Ground.phase }, { on := 3, ground := Ground.phase }, { on := 4, ground := Ground.phase }, { on := 5, ground := Ground.phase }, { on := 6, ground := Ground.phase }, { on := 7, ground := Ground.phase }, { on := 8, ground := Ground.phase }, { on := 9, ground := Ground.phase }, { on := 10, ground := Ground.phase }, { on := 11, ground := Ground.phase }, { on := 12, ground := Ground.phase }, { on := 13, ground := Ground.phase }, { on := 14, ground := Ground.phase }, { on := 15, ground := Ground.phase }, { on := 16, ground := Ground.phase }, { on := 17, ground := Ground.phase }, { on := 18, ground := Ground.phase }], guard := none }) (v := ?v47x17) rfl (by kernel_rfl) (by kernel_rfl) (by kernel_rfl) (fun _ _ _ h => h) (Or.inl ⟨by rfl, ?y47x17⟩) hn ?r47x17
            case y47x17 => (intro wS hS; (try go_simp); (try with_reducible rfl))
            try simp only [Act.put, List.setIfInBounds_toArray, List.set_cons_zero, List.set_cons_succ]
            refine wpAnyH_take (i := 20) (oi := { dst := some 76, op := Op.fieldAddr 34 (Operand.tmp 1) 6, type := 0, pos := "instr.go:64", after := #[{ on := 0, ground := Ground.phase }, { on := 1, ground := Ground.phase }, { on := 2, ground := Ground.phase }, { on := 3, ground := Ground.phase }, { on := 4, ground := Ground.phase }, { on := 5, ground := Ground.phase }, { on := 6, ground := Ground.phase }, { on := 7, ground := Ground.phase }, { on := 8, ground := Ground.phase }, { on := 9, ground := Ground.phase }, { on := 10, ground := Ground.phase }, { on := 11, ground := Ground.phase }, { on := 12, ground := Ground.phase }, { on := 13, ground := Ground.phase }, { on := 14, ground := Ground.phase }, { on := 15, ground := Ground.phase }, { on := 16, ground := Ground.phase }, { on := 17, ground := Ground.phase }, { on := 18, ground := Ground.phase }, { on := 19, ground := Ground.phase }], guard := none }) (v := ?v47x18) rfl (by kernel_rfl) (by kernel_rfl) (by kernel_rfl) (fun _ _ _ h => h) (Or.inl ⟨by rfl, ?y47x18⟩) hn ?r47x18
            case y47x18 => (intro wS hS; (try go_simp); (try with_reducible rfl))
            try simp only [Act.put, List.setIfInBounds_toArray, List.set_cons_zero, List.set_cons_succ]
            refine wpAnyH_ready (rs := [21]) (by kernel_rfl) (by simp) ?_
            refine AllReadyH.cons (o := { dst := none, op := Op.store 9 (Operand.tmp 76) (Operand.const (Value.string { data := #[] })), type := 0, pos := "instr.go:64", after := #[{ on := 20, ground := Ground.data }, { on := 19, ground := Ground.chain }, { on := 0, ground := Ground.phase }, { on := 1, ground := Ground.phase }, { on := 2, ground := Ground.phase }, { on := 3, ground := Ground.phase }, { on := 4, ground := Ground.phase }, { on := 5, ground := Ground.phase }, { on := 6, ground := Ground.phase }, { on := 7, ground := Ground.phase }, { on := 8, ground := Ground.phase }, { on := 9, ground := Ground.phase }, { on := 10, ground := Ground.phase }, { on := 11, ground := Ground.phase }, { on := 12, ground := Ground.phase }, { on := 13, ground := Ground.phase }, { on := 14, ground := Ground.phase }, { on := 15, ground := Ground.phase }, { on := 16, ground := Ground.phase }, { on := 17, ground := Ground.phase }, { on := 18, ground := Ground.phase }, { on := 19, ground := Ground.phase }], guard := none }) rfl (fun K hK => ?_) AllReadyH.nil
            have z9 := cellAt hbx 9 (v := .string raw) rfl
            have f9 := frozenAt hbx 9
            go_simp
            have hbx := hp_set hbx 9 (.string ⟨#[]⟩)
            have hn : (fun w' => New w w' ∧ w'.heap[wa.heap.size]? = some (.cells #[.int .i64 14, .int .i64 ln] 66)) (wr.setCell ⟨w.heap.size, 9, none⟩ (.string ⟨#[]⟩)) := ⟨setNew hn.1 9 _, hp_other hn.2 HNE.out⟩
            refine hK.out _ _ (by first | exact hn | exact Upd.alloc hn _) (fun hn => ?_)
            clear hK K
            try simp only [Act.put, List.setIfInBounds_toArray, List.set_cons_zero, List.set_cons_succ]
            refine wpAnyH_done (by kernel_rfl) ?_ _
            refine NoPanic.normal ?_
            go_wp2_with fail
            go_meet
            exact ⟨_, (.slice al li.length cl), (.slice au (lb ty).length cu), rfl, (by have h := has_ne HBH.out; simp [ownQ, h]), hbx, hn.1, HL.out.new hn.1, HU.out.new hn.1⟩
          refine AllReadyH.cons (o := { dst := some 62, op := Op.load 9 (Operand.tmp 61), type := 9, pos := "instr.go:64", after := #[{ on := 4, ground := Ground.data }, { on := 1, ground := Ground.guard }], guard := some (1, true) }) rfl (fun K hK => ?_) AllReadyH.nil
          have z9 := cellAt hbx 9 (v := .string raw) rfl
          go_simp
          refine hK.out _ _ (by first | exact hn | exact Upd.alloc hn _) (fun hn => ?_)
          clear hK K
          try simp only [Act.put, List.setIfInBounds_toArray, List.set_cons_zero, List.set_cons_succ]
          refine wpAnyH_take (i := 6) (oi := { dst := some 63, op := Op.call { callee := Callee.builtin Builtin.len, args := #[Operand.tmp 62], argTypes := #[9] }, type := 3, pos := "instr.go:64", after := #[{ on := 5, ground := Ground.data }, { on := 1, ground := Ground.guard }], guard := some (1, true) }) (v := ?v47x19) rfl (by kernel_rfl) (by kernel_rfl) (by kernel_rfl) (fun _ _ _ h => h) (Or.inl ⟨by rfl, ?y47x19⟩) hn ?r47x19
          case y47x19 => (intro wS hS; (try go_simp); (try with_reducible rfl))
          try simp only [Act.put, List.setIfInBounds_toArray, List.set_cons_zero, List.set_cons_succ]
          refine wpAnyH_ready (rs := [3]) (by kernel_rfl) (by simp) ?_
          refine AllReadyH.cons (o := { dst := some 60, op := Op.call { callee := Callee.value (Operand.func 31), args := #[Operand.tmp 59], argTypes := #[66] }, type := 70, pos := "instr.go:64", after := #[{ on := 2, ground := Ground.data }, { on := 1, ground := Ground.chain }, { on := 1, ground := Ground.guard }], guard := some (1, true) }) rfl (fun K hK => ?_) AllReadyH.nil
          go_simp
          refine (HS2.out _ _).mono ?_
          rintro e wq ⟨rfl, hnq⟩
          go_wp2_with fail
          have hbx := hp1 hbx hnq
          have hn : (fun w' => New w w' ∧ w'.heap[wa.heap.size]? = some (.cells #[.int .i64 14, .int .i64 ln] 66)) wq := ⟨New.trans hn.1 hnq, hp1 hn.2 hnq⟩
          refine hK.out _ _ (by first | exact hn | exact Upd.alloc hn _) (fun hn => ?_)
          clear hK K
          try simp only [Act.put, List.setIfInBounds_toArray, List.set_cons_zero, List.set_cons_succ]
          refine wpAnyH_ready (rs := [7]) (by kernel_rfl) (by simp) ?_
          refine AllReadyH.cons (o := { dst := some 64, op := Op.call { callee := Callee.value (Operand.func 32), args := #[Operand.tmp 60, Operand.tmp 63], argTypes := #[70, 3] }, type := 4, pos := "instr.go:64", after := #[{ on := 3, ground := Ground.data }, { on := 6, ground := Ground.data }, { on := 3, ground := Ground.chain }, { on := 1, ground := Ground.guard }], guard := some (1, true) }) rfl (fun K hK => ?_) AllReadyH.nil
          go_simp
          refine (HH2.out _).mono ?_
          rintro e wr ⟨rfl, hnq⟩
          go_wp2_with fail
          have hbx := hp1 hbx hnq
          have hn : (fun w' => New w w' ∧ w'.heap[wa.heap.size]? = some (.cells #[.int .i64 14, .int .i64 ln] 66)) wr := ⟨New.trans hn.1 hnq, hp1 hn.2 hnq⟩
          refine hK.out _ _ (by first | exact hn | exact Upd.alloc hn _) (fun hn => ?_)
          clear hK K
          try simp only [Act.put, List.setIfInBounds_toArray, List.set_cons_zero, List.set_cons_succ]
          refine wpAnyH_take (i := 8) (oi := { dst := some 65, op := Op.pick (Operand.tmp 58) (Operand.tmp 64) (Operand.const (Value.bool false)), type := 4, pos := "instr.go:64", after := #[{ on := 1, ground := Ground.data }, { on := 7, ground := Ground.data }], guard := none }) (v := ?v47x20) rfl (by kernel_rfl) (by kernel_rfl) (by kernel_rfl) (fun _ _ _ h => h) (Or.inl ⟨by rfl, ?y47x20⟩) hn ?r47x20
          case y47x20 => (intro wS hS; (try go_simp); (try with_reducible rfl))
          try simp only [Act.put, List.setIfInBounds_toArray, List.set_cons_zero, List.set_cons_succ]
          refine wpAnyH_take (i := 9) (oi := { dst := some 66, op := Op.move (Operand.tmp 65), type := 4, pos := "instr.go:64", after := #[{ on := 8, ground := Ground.data }, { on := 7, ground := Ground.chain }], guard := none }) (v := ?v47x21) rfl (by kernel_rfl) (by kernel_rfl) (by kernel_rfl) (fun _ _ _ h => h) (Or.inl ⟨by rfl, ?y47x21⟩) hn ?r47x21
          case y47x21 => (intro wS hS; (try go_simp); (try with_reducible rfl))
          try simp only [Act.put, List.setIfInBounds_toArray, List.set_cons_zero, List.set_cons_succ]
          refine wpAnyH_take (i := 10) (oi := { dst := some 67, op := Op.fieldAddr 66 (Operand.tmp 3) 0, type := 0, pos := "instr.go:64", after := #[{ on := 9, ground := Ground.guard }], guard := some (9, true) }) (v := undef) rfl (by kernel_rfl) (by kernel_rfl) (by kernel_rfl) (fun _ _ _ h => h) (Or.inr ⟨by rfl, rfl⟩) hn ?_
          try simp only [Act.put, List.setIfInBounds_toArray, List.set_cons_zero, List.set_cons_succ]
          refine wpAnyH_take (i := 11) (oi := { dst := some 68, op := Op.load 3 (Operand.tmp 67), type := 3, pos := "instr.go:64", after := #[{ on := 10, ground := Ground.data }, { on := 9, ground := Ground.guard }], guard := some (9, true) }) (v := undef) rfl (by kernel_rfl) (by kernel_rfl) (by kernel_rfl) (fun _ _ _ h => h) (Or.inr ⟨by rfl, rfl⟩) hn ?_
          try simp only [Act.put, List.setIfInBounds_toArray, List.set_cons_zero, List.set_cons_succ]
          refine wpAnyH_take (i := 12) (oi := { dst := some 69, op := Op.binOp BinOp.neq 3 (Operand.tmp 68) (Operand.const (Value.int IntKind.i64 14)) 3, type := 4, pos := "instr.go:64", after := #[{ on := 11, ground := Ground.data }, { on := 9, ground := Ground.guard }], guard := some (9, true) }) (v := undef) rfl (by kernel_rfl) (by kernel_rfl) (by kernel_rfl) (fun _ _ _ h => h) (Or.inr ⟨by rfl, rfl⟩) hn ?_
          try simp only [Act.put, List.setIfInBounds_toArray, List.set_cons_zero, List.set_cons_succ]
          refine wpAnyH_take (i := 13) (oi := { dst := some 70, op := Op.move (Operand.tmp 69), type := 4, pos := "instr.go:64", after := #[{ on := 12, ground := Ground.data }, { on := 9, ground := Ground.chain }, { on := 9, ground := Ground.guard }], guard := some (9, true) }) (v := undef) rfl (by kernel_rfl) (by kernel_rfl) (by kernel_rfl) (fun _ _ _ h => h) (Or.inr ⟨by rfl, rfl⟩) hn ?_
          try simp only [Act.put, List.setIfInBounds_toArray, List.set_cons_zero, List.set_cons_succ]
          refine wpAnyH_take (i := 14) (oi := { dst := some 71, op := Op.fieldAddr 34 (Operand.tmp 1) 6, type := 0, pos := "instr.go:64", after := #[{ on := 13, ground := Ground.guard }], guard := some (13, false) }) (v := undef) rfl (by kernel_rfl) (by kernel_rfl) (by kernel_rfl) (fun _ _ _ h => h) (Or.inr ⟨by rfl, rfl⟩) hn ?_
          try simp only [Act.put, List.setIfInBounds_toArray, List.set_cons_zero, List.set_cons_succ]
          refine wpAnyH_take (i := 15) (oi := { dst := some 72, op := Op.load 9 (Operand.tmp 71), type := 9, pos := "instr.go:64", after := #[{ on := 14, ground := Ground.data }, { on := 13, ground := Ground.guard }], guard := some (13, false) }) (v := undef) rfl (by kernel_rfl) (by kernel_rfl) (by kernel_rfl) (fun _ _ _ h => h) (Or.inr ⟨by rfl, rfl⟩) hn ?_
          try simp only [Act.put, List.setIfInBounds_toArray, List.set_cons_zero, List.set_cons_succ]
          refine wpAnyH_take (i := 16) (oi := { dst := some 73, op := Op.call { callee := Callee.value (Operand.func 33), args := #[Operand.tmp 72], argTypes := #[9] }, type := 4, pos := "instr.go:64", after := #[{ on := 15, ground := Ground.data }, { on := 13, ground := Ground.chain }, { on := 13, ground := Ground.guard }], guard := some (13, false) }) (v := undef) rfl (by kernel_rfl) (by kernel_rfl) (by kernel_rfl) (fun _ _ _ h => h) (Or.inr ⟨by rfl, rfl⟩) hn ?_
          try simp only [Act.put, List.setIfInBounds_toArray, List.set_cons_zero, List.set_cons_succ]
          refine wpAnyH_take (i := 17) (oi := { dst := some 74, op := Op.pick (Operand.tmp 70) (Operand.const (Value.bool true)) (Operand.tmp 73), type := 4, pos := "instr.go:64", after := #[{ on := 13, ground := Ground.data }, { on := 16, ground := Ground.data }, { on := 9, ground := Ground.guard }], guard := some (9, true) }) (v := undef) rfl (by kernel_rfl) (by kernel_rfl) (by kernel_rfl) (fun _ _ _ h => h) (Or.inr ⟨by rfl, rfl⟩) hn ?_
          try simp only [Act.put, List.setIfInBounds_toArray, List.set_cons_zero, List.set_cons_succ]
          refine wpAnyH_take (i := 18) (oi := { dst := some 75, op := Op.pick (Operand.tmp 66) (Operand.tmp 74) (Operand.const (Value.bool false)), type := 4, pos := "instr.go:64", after := #[{ on := 9, ground := Ground.data }, { on := 17, ground := Ground.data }], guard := none }) (v := ?v47x30) rfl (by kernel_rfl) (by kernel_rfl) (by kernel_rfl) (fun _ _ _ h => h) (Or.inl ⟨by rfl, ?y47x30⟩) hn ?r47x30
          case y47x30 => (intro wS hS; (try go_simp); (try with_reducible rfl))
          try simp only [Act.put, List.setIfInBounds_toArray, List.set_cons_zero, List.set_cons_succ]
          refine wpAnyH_take (i := 19) (oi := { dst := some 4, op := Op.assign (Operand.tmp 75), type := 4, pos := "instr.go:64", after := #[{ on := 18, ground := Ground.data }, { on := 16, ground := Ground.chain }, { on := 0, ground := Ground.phase }, { on := 1, ground := Ground.phase }, { on := 2, ground := Ground.phase }, { on := 3, ground := Ground.phase }, { on := 4, ground := Ground.phase }, { on := 5, ground := Ground.phase }, { on := 6, ground := Ground.phase }, { on := 7, ground := Ground.phase }, { on := 8, ground := Ground.phase }, { on := 9, ground := Ground.phase }, { on := 10, ground := Ground.phase }, { on := 11, ground := Ground.phase }, { on := 12, ground := Ground.phase }, { on := 13, ground := Ground.phase }, { on := 14, ground := Ground.phase }, { on := 15, ground := Ground.phase }, { on := 16, ground := Ground.phase }, { on := 17, ground := Ground.phase }, { on := 18, ground := Ground.phase }], guard := none }) (v := ?v47x31) rfl (by kernel_rfl) (by kernel_rfl) (by kernel_rfl) (fun _ _ _ h => h) (Or.inl ⟨by rfl, ?y47x31⟩) hn ?r47x31
          case y47x31 => (intro wS hS; (try go_simp); (try with_reducible rfl))
          try simp only [Act.put, List.setIfInBounds_toArray, List.set_cons_zero, List.set_cons_succ]
          refine wpAnyH_take (i := 20) (oi := { dst := some 76, op := Op.fieldAddr 34 (Operand.tmp 1) 6, type := 0, pos := "instr.go:64", after := #[{ on := 0, ground := Ground.phase }, { on := 1, ground := Ground.phase }, { on := 2, ground := Ground.phase }, { on := 3, ground := Ground.phase }, { on := 4, ground := Ground.phase }, { on := 5, ground := Ground.phase }, { on := 6, ground := Ground.phase }, { on := 7, ground := Ground.phase }, { on := 8, ground := Ground.phase }, { on := 9, ground := Ground.phase }, { on := 10, ground := Ground.phase }, { on := 11, ground := Ground.phase }, { on := 12, ground := Ground.phase }, { on := 13, ground := Ground.phase }, { on := 14, ground := Ground.phase }, { on := 15, ground := Ground.phase }, { on := 16, ground := Ground.phase }, { on := 17, ground := Ground.phase }, { on := 18, ground := Ground.phase }, { on := 19, ground := Ground.phase }], guard := none }) (v := ?v47x32) rfl (by kernel_rfl) (by kernel_rfl) (by kernel_rfl) (fun _ _ _ h => h) (Or.inl ⟨by rfl, ?y47x32⟩) hn ?r47x32
          case y47x32 => (intro wS hS; (try go_simp); (try with_reducible rfl))
          try simp only [Act.put, List.setIfInBounds_toArray, List.set_cons_zero, List.set_cons_succ]
          refine wpAnyH_ready (rs := [21]) (by kernel_rfl) (by simp) ?_
          refine AllReadyH.cons (o := { dst := none, op := Op.store 9 (Operand.tmp 76) (Operand.const (Value.string { data := #[] })), type := 0, pos := "instr.go:64", after := #[{ on := 20, ground := Ground.data }, { on := 19, ground := Ground.chain }, { on := 0, ground := Ground.phase }, { on := 1, ground := Ground.phase }, { on := 2, ground := Ground.phase }, { on := 3, ground := Ground.phase }, { on := 4, ground := Ground.phase }, { on := 5, ground := Ground.phase }, { on := 6, ground := Ground.phase }, { on := 7, ground := Ground.phase }, { on := 8, ground := Ground.phase }, { on := 9, ground := Ground.phase }, { on := 10, ground := Ground.phase }, { on := 11, ground := Ground.phase }, { on := 12, ground := Ground.phase }, { on := 13, ground := Ground.phase }, { on := 14, ground := Ground.phase }, { on := 15, ground := Ground.phase }, { on := 16, ground := Ground.phase }, { on := 17, ground := Ground.phase }, { on := 18, ground := Ground.phase }, { on := 19, ground := Ground.phase }], guard := none }) rfl (fun K hK => ?_) AllReadyH.nil
          have z9 := cellAt hbx 9 (v := .string raw) rfl
          have f9 := frozenAt hbx 9
          go_simp
          have hbx := hp_set hbx 9 (.string ⟨#[]⟩)
          have hn : (fun w' => New w w' ∧ w'.heap[wa.heap.size]? = some (.cells #[.int .i64 14, .int .i64 ln] 66)) (wr.setCell ⟨w.heap.size, 9, none⟩ (.string ⟨#[]⟩)) := ⟨setNew hn.1 9 _, hp_other hn.2 HNE.out⟩
          refine hK.out _ _ (by first | exact hn | exact Upd.alloc hn _) (fun hn => ?_)
          clear hK K
          try simp only [Act.put, List.setIfInBounds_toArray, List.set_cons_zero, List.set_cons_succ]
          refine wpAnyH_done (by kernel_rfl) ?_ _
          refine NoPanic.normal ?_
          go_wp2_with fail
          go_meet
          exact ⟨_, (.slice al li.length cl), (.slice au (lb ty).length cu), rfl, (by have h := has_ne HBH.out; simp [ownQ, h]), hbx, hn.1, HL.out.new hn.1, HU.out.new hn.1⟩
      · -- 15
        have y1 : wb.cell? ⟨wa.heap.size, 1, none⟩ = some (.int .i64 ln) := cellAt HI.out 1 rfl
        have z10 : wb.cell? ⟨w.heap.size, 10, none⟩ = some (.int .u8 lane) := cellAt HB.out 10 rfl
        have f10 : wb.frozen? ⟨w.heap.size, 10, none⟩ = false := frozenAt HB.out 10
        go_wp2_with fail
        go_meet
        have hn := (setNew HN.out 10 (.int .u8 0))
        exact ⟨_, (.slice al li.length cl), (.slice au (lb ty).length cu), rfl, (by simp [ownQ]), (hp_set HB.out 10 (.int .u8 0)), hn, (HL.out.new hn), (HU.out.new hn)⟩
      · -- 16
        have y1 : wb.cell? ⟨wa.heap.size, 1, none⟩ = some (.int .i64 ln) := cellAt HI.out 1 rfl
        have z5 : wb.cell? ⟨w.heap.size, 5, none⟩ = some (.int .u32 x) := cellAt HB.out 5 rfl
        have z6 : wb.cell? ⟨w.heap.size, 6, none⟩ = some (.int .u32 y) := cellAt HB.out 6 rfl
        have z10 : wb.cell? ⟨w.heap.size, 10, none⟩ = some (.int .u8 lane) := cellAt HB.out 10 rfl
        have f5 : wb.frozen? ⟨w.heap.size, 5, none⟩ = false := frozenAt HB.out 5
        have f6 : wb.frozen? ⟨w.heap.size, 6, none⟩ = false := frozenAt HB.out 6
        have f10 : wb.frozen? ⟨w.heap.size, 10, none⟩ = false := frozenAt HB.out 10
        go_wp2_with fail
        go_meet
        have hn := (setNew (setNew (setNew HN.out 5 (.int .u32 0)) 6 (.int .u32 0)) 10 (.int .u8 0))
        exact ⟨_, (.slice al li.length cl), (.slice au (lb ty).length cu), rfl, (by simp [ownQ]), (hp_set (hp_set (hp_set HB.out 5 (.int .u32 0)) 6 (.int .u32 0)) 10 (.int .u8 0)), hn, (HL.out.new hn), (HU.out.new hn)⟩
      · -- 17
        by_cases h17 : (lb ty).length = 1
        · obtain ⟨x0, hx0⟩ := len_pos_at h17
          have b17 : (((lb ty).length : Int) == 1) = true := by rw [h17]; rfl
          obtain ⟨a3, c3, e, _, _, hcell⟩ := HU.out.new HN.out
          cases e
          obtain ⟨bb, oo, rfl, hce⟩ := hcell (by rw [hx0]; simp)
          have hc0 : wb.cell? ⟨bb, oo, none⟩ = some (.int .u8 x0.toNat) := by
            have := hce 0 (by omega)
            simpa [hx0, cb] using this
          have HX := hid hx0
          have hl1 : 0 < (lb ty).length := by omega
          clear hx0 hce hcell h17
          have z11 : wb.cell? ⟨w.heap.size, 11, none⟩ = some (.slice (some ⟨bb, oo, none⟩) (lb ty).length cu) := cellAt HB.out 11 rfl
          go_wp2_with fail
          refine (HVR.out _ _).mono ?_
          rintro e wd ⟨rfl, rfl⟩
          have f11 : wb.frozen? ⟨w.heap.size, 11, none⟩ = false := frozenAt HB.out 11
          go_wp2_with fail
          go_meet
          have hn := (setNew HN.out 11 (.slice none 0 0))
          exact ⟨_, (.slice al li.length cl), (.slice none 0 0), rfl, (by simp [ownQ, HX.out, ref1]), (hp_set HB.out 11 (.slice none 0 0)), hn, (HL.out.new hn), (Rd.nil _)⟩
        · have b17 : (((lb ty).length : Int) == 1) = false := by rw [beq_eq_false_iff_ne]; omega
          have HX := hid h17
          clear h17
          have z11 : wb.cell? ⟨w.heap.size, 11, none⟩ = some (.slice au (lb ty).length cu) := cellAt HB.out 11 rfl
          have f11 : wb.frozen? ⟨w.heap.size, 11, none⟩ = false := frozenAt HB.out 11
          go_wp2_with fail
          go_meet
          have hn := (setNew HN.out 11 (.slice none 0 0))
          exact ⟨_, (.slice al li.length cl), (.slice none 0 0), rfl, (by simp [ownQ, ref1_not HX.out]), (hp_set HB.out 11 (.slice none 0 0)), hn, (HL.out.new hn), (Rd.nil _)⟩
      · -- 18
        have z11 : wb.cell? ⟨w.heap.size, 11, none⟩ = some (.slice au (lb ty).length cu) := cellAt HB.out 11 rfl
        have f11 : wb.frozen? ⟨w.heap.size, 11, none⟩ = false := frozenAt HB.out 11
        go_wp2_with fail
        refine (HFR.out _ HN.out).mono ?_
        rintro e wd ⟨rfl, hnd⟩
        have HD := hid (New.trans HN.out hnd)
        have HB2 := hid (hp1 HB.out hnd)
        clear z11 f11
        have z11 : wd.cell? ⟨w.heap.size, 11, none⟩ = some (.slice au (lb ty).length cu) := cellAt HB2.out 11 rfl
        have f11 : wd.frozen? ⟨w.heap.size, 11, none⟩ = false := frozenAt HB2.out 11
        go_wp2_with fail
        go_meet
        have hn := (setNew HD.out 11 (.slice none 0 0))
        exact ⟨_, (.slice al li.length cl), (.slice none 0 0), rfl, (by simp [ownQ, valsV]), (hp_set HB2.out 11 (.slice none 0 0)), hn, (HL.out.new hn), (Rd.nil _)⟩
      · obtain ⟨h1, h2, h3, h4, h5, h8, h9, h10, h11, h12, h13, h14, h15, h16, h17, h18⟩ := ho
        have HO : Hid (ownQ s ln ⟨p, c, k, t, i, x, y, li, n, raw, lane, ty⟩) := own_plain ⟨h1, h2, h3, h4, h5, h8, h9, h10, h11, h12, h13, h14, h15, h16, h17, h18⟩
        have e1 : (s == 1) = false := beq_eq_false_iff_ne.mpr h1
        have e2 : (s == 2) = false := beq_eq_false_iff_ne.mpr h2
        have e3 : (s == 3) = false := beq_eq_false_iff_ne.mpr h3
        have e4 : (s == 4) = false := beq_eq_false_iff_ne.mpr h4
        have e5 : (s == 5) = false := beq_eq_false_iff_ne.mpr h5
        have e8 : (s == 8) = false := beq_eq_false_iff_ne.mpr h8
        have e9 : (s == 9) = false := beq_eq_false_iff_ne.mpr h9
        have e10 : (s == 10) = false := beq_eq_false_iff_ne.mpr h10
        have e11 : (s == 11) = false := beq_eq_false_iff_ne.mpr h11
        have e12 : (s == 12) = false := beq_eq_false_iff_ne.mpr h12
        have e13 : (s == 13) = false := beq_eq_false_iff_ne.mpr h13
        have e14 : (s == 14) = false := beq_eq_false_iff_ne.mpr h14
        have e15 : (s == 15) = false := beq_eq_false_iff_ne.mpr h15
        have e16 : (s == 16) = false := beq_eq_false_iff_ne.mpr h16
        have e17 : (s == 17) = false := beq_eq_false_iff_ne.mpr h17
        have e18 : (s == 18) = false := beq_eq_false_iff_ne.mpr h18
        have HZ := hid hz
        have HS := hid hs
        clear h1 h2 h3 h4 h5 h8 h9 h10 h11 h12 h13 h14 h15 h16 h17 h18 hz hs
        go_wp2_with fail
        go_meet
        rw [HZ.out]
        exact ⟨_, _, _, rfl, (by simp [HO.out, HS.out]), HB.out, HN.out, HL.out.new HN.out, HU.out.new HN.out⟩
    · have hz : zap s ⟨p, c, k, t, i, x, y, li, n, raw, lane, ty⟩ = ⟨p, c, k, t, i, x, y, li, n, raw, lane, ty⟩ := by
        rcases shapes s with h | h | h | h | h | h | h | h | h | h | h | h | h | h | h | h | ⟨h, _⟩
        all_goals first | omega | exact h _
      have HZ := hid hz
      have HS := hid hs
      clear hz hs
      go_wp2_with fail
      go_meet
      rw [HZ.out]
      exact ⟨_, _, _, rfl, ⟨(fun h => by cases h), (fun h => absurd h.1 (Int.not_le.mpr HS.out))⟩, HB.out, HN.out, HL.out.new HN.out, HU.out.new HN.out⟩
  case rest =>
    obtain ⟨b, l', u', rfl, hbq, hbox, hn, hrl, hru⟩ := hcut
    have hs1 : (zap s ⟨p, c, k, t, i, x, y, li, n, raw, lane, ty⟩).li.length ≤ 1000000 := by
      show (if s = 4 then [] else li).length ≤ _
      split
      · simp
      · exact s1
    have hs3 : (zap s ⟨p, c, k, t, i, x, y, li, n, raw, lane, ty⟩).ty.size ≤ 1000000 := by
      show (if s = 17 ∨ s = 18 then (⟨#[]⟩ : ByteArray) else ty).size ≤ _
      split
      · show (0 : Nat) ≤ _
        omega
      · exact s3
    have hp1 : (zap s ⟨p, c, k, t, i, x, y, li, n, raw, lane, ty⟩).p = p := rfl
    have hp2 : (zap s ⟨p, c, k, t, i, x, y, li, n, raw, lane, ty⟩).c = c := rfl
    generalize zap s ⟨p, c, k, t, i, x, y, li, n, raw, lane, ty⟩ = m' at *
    have HSM := hid (pSame_any m' (zeroI p c) l' (.slice none 0 0) u' (.slice none 0 0) wc hrl (RdM.nil _ _) hru (Rd.nil _) hs1 (by simp [zeroI]) hs3 (by show (0 : Nat) ≤ _; omega))
    obtain ⟨p', c', k', t', i', x', y', li', n', raw', lane', ty'⟩ := m'
    simp only at hp1 hp2
    subst hp1 hp2
    unfold pI zeroI at HSM
    simp only at HSM
    have HBX := hid hbox
    have HBQ := hid hbq
    have HNC := hid hn
    obtain ⟨al', cl', rfl⟩ := hrl.shape
    obtain ⟨au', cu', rfl⟩ := hru.shape
    clear hbox hbq hn hrl hru hs1 hs3 HB HN HI HL HU
    cases b with
    | false =>
      go_wp2_with fail
      go_ret
      refine ⟨false, rfl, ⟨(fun h => by cases h), (fun h => ?_)⟩, HNC.out⟩
      rw [hQ2.out] at h
      exact HBQ.out.mpr ⟨h.1, h.2.1⟩
    | true =>
      have z0 : wc.cell? ⟨w.heap.size, 0, none⟩ = some (.int .u8 p') := cellAt HBX.out 0 rfl
      have z1 : wc.cell? ⟨w.heap.size, 1, none⟩ = some (.int .u32 c') := cellAt HBX.out 1 rfl
      have z2 : wc.cell? ⟨w.heap.size, 2, none⟩ = some (.int .i64 k') := cellAt HBX.out 2 rfl
      have z3 : wc.cell? ⟨w.heap.size, 3, none⟩ = some (.int .u8 t') := cellAt HBX.out 3 rfl
      have z4 : wc.cell? ⟨w.heap.size, 4, none⟩ = some (.int .u32 i') := cellAt HBX.out 4 rfl
      have z5 : wc.cell? ⟨w.heap.size, 5, none⟩ = some (.int .u32 x') := cellAt HBX.out 5 rfl
      have z6 : wc.cell? ⟨w.heap.size, 6, none⟩ = some (.int .u32 y') := cellAt HBX.out 6 rfl
      have z7 : wc.cell? ⟨w.heap.size, 7, none⟩ = some (.slice al' li'.length cl') := cellAt HBX.out 7 rfl
      have z8 : wc.cell? ⟨w.heap.size, 8, none⟩ = some (.int .i64 n') := cellAt HBX.out 8 rfl
      have z9 : wc.cell? ⟨w.heap.size, 9, none⟩ = some (.string raw') := cellAt HBX.out 9 rfl
      have z10 : wc.cell? ⟨w.heap.size, 10, none⟩ = some (.int .u8 lane') := cellAt HBX.out 10 rfl
      have z11 : wc.cell? ⟨w.heap.size, 11, none⟩ = some (.slice au' (lb ty').length cu') := cellAt HBX.out 11 rfl
      go_wp2_with fail
      refine HSM.out.mono ?_
      rintro e wd ⟨b2, rfl, hb2, hnd⟩
      have HB2 := hid hb2
      have HND := hid (New.trans HNC.out hnd)
      clear hb2 hnd
      clear z0 z1 z2 z3 z4 z5 z6 z7 z8 z9 z10 z11
      go_wp2_with fail
      go_ret
      refine ⟨b2, rfl, ?_, HND.out⟩
      rw [hQ2.out, HB2.out]
      have := HBQ.out.mp (by first | rfl | trivial)
      exact ⟨fun h => ⟨this.1, this.2, h⟩, fun h => h.2.2⟩
end Go.Proofs.Ytnngibflnnmioaa
