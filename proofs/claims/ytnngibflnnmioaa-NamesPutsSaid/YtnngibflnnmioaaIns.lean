/-
  An instruction, as both sides keep it; the program's Same.
-/
import Derived.Test.YtnngibflnnmioaaBlk
namespace Go.Proofs.Ytnngibflnnmioaa
open Go.RowKit Go.Proofs.Leb Go.Proofs.Own
set_option maxRecDepth 100000
set_option maxHeartbeats 4000000

/-- an instruction, without its memory -/
structure Ins where
  p : Int
  c : Int
  k : Int
  t : Int
  i : Int
  x : Int
  y : Int
  li : List Nat
  n : Int
  raw : ByteArray
  lane : Int
  ty : ByteArray
def rI (m : Ins) (l : Value) : Value := .agg #[.int .u8 m.p, .int .u32 m.c, .int .i64 m.k, .int .u8 m.t, .int .u32 m.i, .int .u32 m.x, .int .u32 m.y, l, .int .i64 m.n, .string m.raw, .int .u8 m.lane, .string m.ty]
def pI (m : Ins) (l u : Value) : Value := .agg #[.int .u8 m.p, .int .u32 m.c, .int .i64 m.k, .int .u8 m.t, .int .u32 m.i, .int .u32 m.x, .int .u32 m.y, l, .int .i64 m.n, .string m.raw, .int .u8 m.lane, u]
def SameP (q : Prop) (w : World) (e : Ending) (w' : World) : Prop := ∃ b, e = .returned (.bool b) ∧ (b = true ↔ q) ∧ New w w'
theorem lb_inj {a b : ByteArray} (h : lb a = lb b) : a = b := by
  unfold lb at h
  exact ByteArray.ext (Array.toList_inj.mp h)

theorem tl_inj {a b : ByteArray} (h : a.toList = b.toList) : a = b := by
  rw [ByteArray.toList_eq, ByteArray.toList_eq] at h
  exact lb_inj h
theorem box1 (w : World) (cs : Array Value) (t : TypeId) (i : Nat) : (w.alloc (.cells cs t)).cell? ⟨w.heap.size, i, none⟩ = cs[i]? := by
  rw [cell_of_row _ w.heap.size i _ t (0, 0) (hp_new rfl)]
theorem box21 (w : World) (cs : Array Value) (t : TypeId) (o : Obj) (i : Nat) : ((w.alloc (.cells cs t)).alloc o).cell? ⟨w.heap.size, i, none⟩ = cs[i]? := by
  rw [cell_of_row _ w.heap.size i _ t (0, 0) (hp_old (by simp) (hp_new rfl))]
theorem box22 (w : World) (cs : Array Value) (t : TypeId) (o : Obj) (i : Nat) : ((w.alloc o).alloc (.cells cs t)).cell? ⟨w.heap.size + 1, i, none⟩ = cs[i]? := by
  rw [cell_of_row _ (w.heap.size + 1) i _ t (0, 0) (hp_new (by simp))]

theorem hp1 {w w' : World} {g : Nat} {o : Obj} (h : w.heap[g]? = some o) (hn : New w w') : w'.heap[g]? = some o :=
  (hn.block g (Array.getElem?_eq_some_iff.1 h).1 (fun h => h)).trans h
theorem cellAt {w : World} {g : Nat} {cs : Array Value} {t : TypeId} (h : w.heap[g]? = some (.cells cs t)) (i : Nat) {v : Value} (hv : cs[i]? = some v) : w.cell? ⟨g, i, none⟩ = some v := by
  rw [cell_of_row _ g i _ t (0, 0) h]; exact hv

theorem pSame_any (a b : Ins) (la lb' ua ub : Value) (w : World) (h1 : RdM .u32 w la a.li) (h2 : RdM .u32 w lb' b.li) (h3 : Rd w ua (lb a.ty)) (h4 : Rd w ub (lb b.ty))
    (s1 : a.li.length ≤ 1000000) (s2 : b.li.length ≤ 1000000) (s3 : a.ty.size ≤ 1000000) (s4 : b.ty.size ≤ 1000000) :
    Calls Try.prog 9 #[pI a la ua, pI b lb' ub] w (SameP (a = b) w) := by
  have hl3 := lb_len a.ty
  have hl4 := lb_len b.ty
  have HE := hid (fun w' (hn : New w w') => eqN_any la lb' a.li b.li w' (h1.new hn) (h2.new hn) (by omega) (by omega))
  have HV := hid (fun w' (hn : New w w') => eqV_any ua ub (lb a.ty) (lb b.ty) w' (h3.new hn) (h4.new hn) (by omega) (by omega))
  obtain ⟨a1, c1, rfl⟩ := h1.shape
  obtain ⟨a2, c2, rfl⟩ := h2.shape
  obtain ⟨a3, c3, rfl⟩ := h3.shape
  obtain ⟨a4, c4, rfl⟩ := h4.shape
  clear h1 h2 h3 h4 s1 s2 s3 s4 hl3 hl4
  have HN := hid (fun o o' => ((Upd.refl (fun _ => False) w).alloc o).alloc o')
  obtain ⟨p, c, k, t, i, x, y, li, n, raw, lane, ty⟩ := a
  obtain ⟨p', c', k', t', i', x', y', li', n', raw', lane', ty'⟩ := b
  unfold pI
  simp only at *
  go_enter Try.func9, Try.ntmps9
  go_wp2_with fail
  all_goals first
    | (go_ret
       refine ⟨false, rfl, ⟨(fun h => by cases h), (fun h => ?_)⟩, HN.out _ _⟩
       first | (injection h; contradiction) | (exfalso; simp_all))
    | skip
  refine (HE.out _ (HN.out _ _)).mono ?_
  rintro e w1 ⟨rfl, hn1⟩
  have hn2 := New.trans (HN.out _ _) hn1
  have z0 : w1.cell? ⟨w.heap.size, 11, none⟩ = some (.slice a3 (lb ty).length c3) := hn1.cell (by rw [box21]; rfl) (fun h => h)
  have z1 : w1.cell? ⟨w.heap.size + 1, 11, none⟩ = some (.slice a4 (lb ty').length c4) := hn1.cell (by rw [box22]; rfl) (fun h => h)
  have HN1 := hid hn2
  clear hn1 hn2
  by_cases hli : li = li'
  · rw [decide_eq_true hli]
    have HL := hid hli
    clear hli
    go_wp2_with fail
    refine (HV.out _ HN1.out).mono ?_
    rintro e w2 ⟨rfl, hn3⟩
    have HN2 := hid (New.trans HN1.out hn3)
    clear hn3 z0 z1
    go_wp2_with fail
    go_ret
    refine ⟨_, rfl, ?_, HN2.out⟩
    have hl := HL.out
    subst hl
    rw [decide_eq_true_iff]
    constructor
    · intro h
      have h1 := lb_inj h
      have h2 := tl_inj ‹raw.toList = raw'.toList›
      subst h1 h2
      first | rfl | simp_all
    · intro h
      injection h
      simp_all
  · rw [decide_eq_false hli]
    have HL := hid hli
    clear hli z0 z1
    go_wp2_with fail
    go_ret
    refine ⟨_, rfl, ⟨(fun h => by cases h), (fun h => ?_)⟩, HN1.out⟩
    injection h
    exact absurd ‹li = li'› HL.out

theorem same_end {p c k t i x y n lane : Int} {li : List Nat} {raw raw' ty ty' : ByteArray} (h : raw.toList = raw'.toList) :
    (ty.toList == ty'.toList) = true ↔ (⟨p, c, k, t, i, x, y, li, n, raw, lane, ty⟩ : Ins) = ⟨p, c, k, t, i, x, y, li, n, raw', lane, ty'⟩ := by
  have h2 := tl_inj h
  subst h2
  constructor
  · intro h
    have := tl_inj (eq_of_beq h)
    subst this
    rfl
  · intro h
    injection h with _ _ _ _ _ _ _ _ _ _ _ h
    subst h
    exact beq_self_eq_true _
theorem ite_end {p c k t i x y n lane p' c' k' t' i' x' y' n' lane' : Int} {li li' : List Nat} {raw raw' ty ty' : ByteArray} :
    (⟨p, c, k, t, i, x, y, li, n, raw, lane, ty⟩ : Ins) = ⟨p', c', k', t', i', x', y', li', n', raw', lane', ty'⟩ ↔
    p = p' ∧ c = c' ∧ k = k' ∧ t = t' ∧ i = i' ∧ x = x' ∧ y = y' ∧ li = li' ∧ n = n' ∧ raw = raw' ∧ lane = lane' ∧ ty = ty' := by
  rw [Ins.mk.injEq]
end Go.Proofs.Ytnngibflnnmioaa
