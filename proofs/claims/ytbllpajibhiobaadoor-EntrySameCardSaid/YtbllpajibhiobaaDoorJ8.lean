/-
  Entries: globals, elements, data and codes, without their memory; two boxed structs.
-/
import Derived.Test.YtbllpajibhiobaaDoorJ5
import Derived.Test.YtbllpajibhiobaaDoorJ7
import Derived.Test.YtbllpajibhiobaaDoorJ0
namespace Go.Proofs.YtbllpajibhiobaaDoor
open Go.RowKit Go.Proofs.Leb Go.Proofs.Own
set_option maxRecDepth 100000

structure Glb where
  t : Int
  m : Bool
  l : List Ins
structure Elm where
  mo : Int
  ty : Int
  tb : Int
  off : List Ins
  l : List (List Ins)
structure Dat where
  a : Bool
  me : Int
  off : List Ins
  s : ByteArray
structure Cod where
  ls : List (Nat × Nat)
  b : List Ins
/-- a list of instructions in one cell -/
def FXR : FRep (List Ins) := fun w B u l => RdE 12 ER w B u l
def FXP : FRep (List Ins) := fun w B u l => RdE 12 EP w B u l
theorem FXR.ok : FRep.Ok FXR := ⟨fun h hu hS => RdE.upd ER.ok h hu hS, fun h hB => RdE.mono ER.ok h hB⟩
theorem FXP.ok : FRep.Ok FXP := ⟨fun h hu hS => RdE.upd EP.ok h hu hS, fun h hB => RdE.mono EP.ok h hB⟩
/-- a run of locals -/
def EU : ERep (Nat × Nat) := Pure fun x => [.int .u32 (x.1 : Nat), .int .u8 (x.2 : Nat)]
theorem EU.ok : EU.Ok := Pure.ok _
theorem eu_at {w : World} {B : Nat → Prop} {v : Value} {xs : List (Nat × Nat)} (h : RdE 2 EU w B v xs) : ∃ a cap, v = .slice a xs.length cap ∧ ∀ i (hi : i < xs.length), ∃ b o, a = some ⟨b, o, none⟩ ∧
    w.cell? ⟨b, o + i * 2, none⟩ = some (.int .u32 (xs[i].1 : Nat)) ∧ w.cell? ⟨b, o + i * 2 + 1, none⟩ = some (.int .u8 (xs[i].2 : Nat)) := by
  obtain ⟨a, cap, rfl, hat⟩ := h.at
  refine ⟨a, cap, rfl, fun i hi => ?_⟩
  obtain ⟨b, o, row, rfl, hl, rfl, hc⟩ := hat i hi
  exact ⟨b, o, rfl, by simpa using hc 0 _ rfl, hc 1 _ rfl⟩
def FitLL (xs : List (List Ins)) : Prop := xs.length ≤ 20 ∧ ∀ x ∈ xs, FitL x
def FitG (g : Glb) : Prop := FitL g.l
def FitE (e : Elm) : Prop := FitL e.off ∧ FitLL e.l
def FitD (d : Dat) : Prop := FitL d.off ∧ d.s.size ≤ 300
def FitC (c : Cod) : Prop := c.ls.length ≤ 40 ∧ FitL c.b
/-- two blocks behind what was there: the first is a box of what came in; the second is being filled -/
def One (w : World) (c1 : Array Value) (T1 : TypeId) (w' : World) : Prop := New w w' ∧ w'.heap[w.heap.size]? = some (.cells c1 T1) ∧ w.heap.size + 2 ≤ w'.heap.size
section
variable {w a b : World} {c1 c2 : Array Value} {T1 T2 : TypeId}
theorem One.mk0 : One w c1 T1 ((w.alloc (.cells c1 T1)).alloc (.cells c2 T2)) := ⟨((Upd.refl _ _).alloc _).alloc _, hp_old (by simp) (hp_new rfl), by simp⟩
theorem One.mk2 : ((w.alloc (.cells c1 T1)).alloc (.cells c2 T2)).heap[w.heap.size + 1]? = some (.cells c2 T2) := hp_new (by simp)
theorem One.new (h : One w c1 T1 a) (k : New a b) : One w c1 T1 b := ⟨New.trans h.1 k, hp1 h.2.1 k, Nat.le_trans h.2.2 k.size⟩
theorem One.at1 (h : One w c1 T1 a) (i : Nat) {v : Value} (hv : c1[i]? = some v) : a.cell? ⟨w.heap.size, i, none⟩ = some v := cellAt h.2.1 i hv
/-- writes to memory made since -/
theorem One.upd {S : Nat → Prop} (h : One w c1 T1 a) (k : Upd S a b) (hS : ∀ i, S i → w.heap.size + 1 ≤ i) : One w c1 T1 b := by
  have hz := h.2.2
  exact ⟨Upd.trans h.1 k (fun i hi e => absurd (hS i e) (by omega)), (k.block _ (by omega) (fun e => absurd (hS _ e) (by omega))).trans h.2.1, Nat.le_trans hz k.size⟩
/-- the second one, filled -/
theorem One.set (h : One w c1 T1 a) (k : Upd (fun k => k = w.heap.size + 1) a b) : One w c1 T1 b := h.upd k (fun i e => by omega)
end
/-- memory made behind the two blocks -/
def Far2 (w w' : World) : Nat → Prop := fun k => w.heap.size + 2 ≤ k ∧ k < w'.heap.size
section
variable {α : Type} {E : ERep α} {n : Nat} {w a b : World} {c1 : Array Value} {T1 : TypeId} {v : Value} {xs : List α}
theorem Far2.of (hE : E.Ok) (h : One w c1 T1 a) (hr : RdE n E b (Since8 a b) v xs) : RdE n E b (Far2 w b) v xs := hr.mono hE fun k hk => ⟨Nat.le_trans h.2.2 hk.1, hk.2⟩
theorem Far2.new (hE : E.Ok) (hn : New a b) (hr : RdE n E a (Far2 w a) v xs) : RdE n E b (Far2 w b) v xs := (hr.new hE hn).mono hE fun k hk => ⟨hk.1, Nat.lt_of_lt_of_le hk.2 hn.size⟩
theorem Far2.set (hE : E.Ok) (hu : Upd (fun k => k = w.heap.size + 1) a b) (hr : RdE n E a (Far2 w a) v xs) : RdE n E b (Far2 w b) v xs := (hr.upd hE hu (fun k hk e => by have := hk.1; omega)).mono hE fun k hk => ⟨hk.1, Nat.lt_of_lt_of_le hk.2 hu.size⟩
theorem Far2.since (hE : E.Ok) (hr : RdE n E a (Far2 w a) v xs) : RdE n E a (Since8 w a) v xs := hr.mono hE fun k hk => ⟨by have := hk.1; omega, hk.2⟩
end
end Go.Proofs.YtbllpajibhiobaaDoor

namespace Go.Proofs.YtbllpajibhiobaaDoor
open Go.RowKit Go.Proofs.Leb Go.Proofs.Own
set_option maxRecDepth 100000
set_option maxHeartbeats 4000000

theorem idxLL32 {B : Nat → Prop} (q : List Ins → Prop) (v : Value) (xs : List (List Ins)) (w : World) (hr : RdE 1 (E1 FXP) w B v xs) (hl : xs.length ≤ 1000000)
    (hq : ∀ (x : List Ins) u w', x ∈ xs → FXP w' B u x → Calls Tryd.prog 32 #[u] w' (SameP (q x) w')) :
    Calls Tryd.prog 47 #[v, .func (.func 32) #[] #[]] w fun e w' => ∃ n : Int, e = .returned (.int .i64 n) ∧ (0 ≤ n ↔ ∃ x ∈ xs, q x) ∧ New w w' := by
  obtain ⟨a, cap, rfl, hat⟩ := e1_at hr
  have HQ := hid hq
  have HAT := hid hat
  clear hr hq hat
  go_enter Tryd.func47, Tryd.ntmps47
  go_wp2_with fail
  go_loopw [8] (fun c wr => ∃ i : Nat, c = .int .i64 i ∧ i ≤ xs.length ∧ (∀ j (h : j < xs.length), j < i → ¬ q xs[j]) ∧ New w wr) (fun c _ => xs.length - (intOf c).toNat)
  case atStart => exact ⟨0, rfl, by omega, fun j _ h => absurd h (Nat.not_lt_zero _), Upd.refl _ _⟩
  case round =>
    obtain ⟨i, rfl, hi1, hno, hn⟩ := hrel
    have HN := hid hn
    have HNO := hid hno
    clear hn hno
    by_cases hi : i < xs.length
    · obtain ⟨b, o, u, rfl, hc0, hf⟩ := HAT.out i hi
      have k0 := HN.out.cell hc0 (fun h => h)
      have HC := hid (HQ.out xs[i] u wr (List.getElem_mem _) (FXP.ok.new hf HN.out))
      have HS : Hid (∀ j (h : j < xs.length), j < i + 1 → ¬ q xs[i] → ¬ q xs[j]) := by
        show ∀ j (h : j < xs.length), j < i + 1 → ¬ q xs[i] → ¬ q xs[j]
        intro j h h1 h2
        rcases Nat.lt_or_ge j i with h3 | h3
        · exact HNO.out j h h3
        · obtain rfl : j = i := by omega
          exact h2
      have HM : Hid (xs[i] ∈ xs) := List.getElem_mem _
      obtain ⟨ua, uc, rfl⟩ : ∃ a c, u = .slice a xs[i].length c := RdE.shape hf
      generalize xs[i] = y at *
      clear hc0 hf
      go_wp2_with fail
      refine HC.out.mono ?_
      rintro e w2 ⟨bb, rfl, hb, hn2⟩
      have HN2 := hid (New.trans HN.out hn2)
      clear k0 hn2
      cases bb with
      | true =>
        have HB := hid (hb.1 rfl)
        clear hb
        go_wp2_with fail
        go_ret
        exact ⟨_, rfl, iff_of_true (by omega) ⟨_, HM.out, HB.out⟩, HN2.out⟩
      | false =>
        have HB := hid (fun h => Bool.noConfusion (hb.2 h) : ¬ q y)
        clear hb
        go_wp2_with fail
        go_roundw
        case rel => exact ⟨i + 1, by go_num, by omega, fun j h h1 => HS.out j h h1 HB.out, HN2.out⟩
        case measure => simp [intOf]; omega
    · obtain rfl : i = xs.length := by omega
      go_wp2_with fail
      go_ret
      refine ⟨_, rfl, iff_of_false (by decide) ?_, HN.out⟩
      rintro ⟨x, hx, hq⟩
      obtain ⟨j, hj, rfl⟩ := List.mem_iff_getElem.1 hx
      exact HNO.out j hj hj hq
theorem conLL32 {B : Nat → Prop} (q : List Ins → Prop) (v : Value) (xs : List (List Ins)) (w : World) (hr : RdE 1 (E1 FXP) w B v xs) (hl : xs.length ≤ 1000000)
    (hq : ∀ (x : List Ins) u w', x ∈ xs → FXP w' B u x → Calls Tryd.prog 32 #[u] w' (SameP (q x) w')) :
    Calls Tryd.prog 35 #[v, .func (.func 32) #[] #[]] w (SameP (∃ x ∈ xs, q x) w) := by
  have HI := hid (idxLL32 q v xs w hr hl hq)
  obtain ⟨a, cap, rfl, -⟩ := e1_at hr
  clear hr hq
  go_enter Tryd.func35, Tryd.ntmps35
  go_wp2_with fail
  refine HI.out.mono ?_
  rintro e w' ⟨n, rfl, hn, hw⟩
  have HN := hid hn
  have HW := hid hw
  clear hn hw
  go_wp2_with fail
  go_ret
  refine ⟨_, rfl, ?_, HW.out⟩
  rw [← HN.out]
  simp
theorem idxLL48 {B : Nat → Prop} (q : List Ins → Prop) (v : Value) (xs : List (List Ins)) (w : World) (hr : RdE 1 (E1 FXP) w B v xs) (hl : xs.length ≤ 1000000)
    (hq : ∀ (x : List Ins) u w', x ∈ xs → FXP w' B u x → Calls Tryd.prog 48 #[u] w' (SameP (q x) w')) :
    Calls Tryd.prog 47 #[v, .func (.func 48) #[] #[]] w fun e w' => ∃ n : Int, e = .returned (.int .i64 n) ∧ (0 ≤ n ↔ ∃ x ∈ xs, q x) ∧ New w w' := by
  obtain ⟨a, cap, rfl, hat⟩ := e1_at hr
  have HQ := hid hq
  have HAT := hid hat
  clear hr hq hat
  go_enter Tryd.func47, Tryd.ntmps47
  go_wp2_with fail
  go_loopw [8] (fun c wr => ∃ i : Nat, c = .int .i64 i ∧ i ≤ xs.length ∧ (∀ j (h : j < xs.length), j < i → ¬ q xs[j]) ∧ New w wr) (fun c _ => xs.length - (intOf c).toNat)
  case atStart => exact ⟨0, rfl, by omega, fun j _ h => absurd h (Nat.not_lt_zero _), Upd.refl _ _⟩
  case round =>
    obtain ⟨i, rfl, hi1, hno, hn⟩ := hrel
    have HN := hid hn
    have HNO := hid hno
    clear hn hno
    by_cases hi : i < xs.length
    · obtain ⟨b, o, u, rfl, hc0, hf⟩ := HAT.out i hi
      have k0 := HN.out.cell hc0 (fun h => h)
      have HC := hid (HQ.out xs[i] u wr (List.getElem_mem _) (FXP.ok.new hf HN.out))
      have HS : Hid (∀ j (h : j < xs.length), j < i + 1 → ¬ q xs[i] → ¬ q xs[j]) := by
        show ∀ j (h : j < xs.length), j < i + 1 → ¬ q xs[i] → ¬ q xs[j]
        intro j h h1 h2
        rcases Nat.lt_or_ge j i with h3 | h3
        · exact HNO.out j h h3
        · obtain rfl : j = i := by omega
          exact h2
      have HM : Hid (xs[i] ∈ xs) := List.getElem_mem _
      obtain ⟨ua, uc, rfl⟩ : ∃ a c, u = .slice a xs[i].length c := RdE.shape hf
      generalize xs[i] = y at *
      clear hc0 hf
      go_wp2_with fail
      refine HC.out.mono ?_
      rintro e w2 ⟨bb, rfl, hb, hn2⟩
      have HN2 := hid (New.trans HN.out hn2)
      clear k0 hn2
      cases bb with
      | true =>
        have HB := hid (hb.1 rfl)
        clear hb
        go_wp2_with fail
        go_ret
        exact ⟨_, rfl, iff_of_true (by omega) ⟨_, HM.out, HB.out⟩, HN2.out⟩
      | false =>
        have HB := hid (fun h => Bool.noConfusion (hb.2 h) : ¬ q y)
        clear hb
        go_wp2_with fail
        go_roundw
        case rel => exact ⟨i + 1, by go_num, by omega, fun j h h1 => HS.out j h h1 HB.out, HN2.out⟩
        case measure => simp [intOf]; omega
    · obtain rfl : i = xs.length := by omega
      go_wp2_with fail
      go_ret
      refine ⟨_, rfl, iff_of_false (by decide) ?_, HN.out⟩
      rintro ⟨x, hx, hq⟩
      obtain ⟨j, hj, rfl⟩ := List.mem_iff_getElem.1 hx
      exact HNO.out j hj hj hq
theorem conLL48 {B : Nat → Prop} (q : List Ins → Prop) (v : Value) (xs : List (List Ins)) (w : World) (hr : RdE 1 (E1 FXP) w B v xs) (hl : xs.length ≤ 1000000)
    (hq : ∀ (x : List Ins) u w', x ∈ xs → FXP w' B u x → Calls Tryd.prog 48 #[u] w' (SameP (q x) w')) :
    Calls Tryd.prog 35 #[v, .func (.func 48) #[] #[]] w (SameP (∃ x ∈ xs, q x) w) := by
  have HI := hid (idxLL48 q v xs w hr hl hq)
  obtain ⟨a, cap, rfl, -⟩ := e1_at hr
  clear hr hq
  go_enter Tryd.func35, Tryd.ntmps35
  go_wp2_with fail
  refine HI.out.mono ?_
  rintro e w' ⟨n, rfl, hn, hw⟩
  have HN := hid hn
  have HW := hid hw
  clear hn hw
  go_wp2_with fail
  go_ret
  refine ⟨_, rfl, ?_, HW.out⟩
  rw [← HN.out]
  simp
/-- no expression -/
theorem wrong_any {B : Nat → Prop} (x : List Ins) (u : Value) (w : World) (hx : FXP w B u x) (hf : FitL x) (hw : ∀ m ∈ x, WfI m) :
    Calls Tryd.prog 32 #[u] w (SameP (¬ RightX x) w) := by
  have HR := hid (pRight8_any u x w hx hf hw)
  obtain ⟨a, c, rfl⟩ : ∃ a c, u = .slice a x.length c := RdE.shape hx
  clear hx hf hw
  go_enter Tryd.func32, Tryd.ntmps32
  go_wp2_with fail
  refine HR.out.mono ?_
  rintro e w1 ⟨b, rfl, hb, hn⟩
  have HB := hid hb
  have HN := hid hn
  clear hb hn
  go_wp2_with fail
  go_ret
  refine ⟨!b, rfl, ?_, HN.out⟩
  rw [← HB.out]
  cases b <;> simp
def badE (mo tb : Int) (n : Nat) : Bool := decide (mo < 0 ∨ 3 ≤ mo ∨ mo ≠ 0 ∧ (tb ≠ 0 ∨ 0 < n))
def RightE (e : Elm) : Prop := badE e.mo e.tb e.off.length = false ∧ refV e.ty = true ∧ RightX e.off ∧ ∀ x ∈ e.l, RightX x
def WfE (e : Elm) : Prop := (∀ m ∈ e.off, WfI m) ∧ ∀ x ∈ e.l, ∀ m ∈ x, WfI m
theorem pRightE_any {B B' : Nat → Prop} (g : Elm) (v l : Value) (w : World) (hr : RdE 12 EP w B v g.off) (hl : RdE 1 (E1 FXP) w B' l g.l) (hf : FitE g) (hw : WfE g) :
    Calls Tryd.prog 25 #[.agg #[.int .i64 g.mo, .int .u8 g.ty, .int .u32 g.tb, v, l]] w (SameP (RightE g) w) := by
  have HR := hid (fun w' (hn : New w w') => pRight8_any v g.off w' (hr.new EP.ok hn) hf.1 hw.1)
  have HC := hid (fun w' (hn : New w w') => conLL32 (fun x => ¬ RightX x) l g.l w' (hl.new (E1.ok FXP.ok) hn) (by have := hf.2.1; omega) (fun x u w2 hx hu => wrong_any x u w2 hu (hf.2.2 x hx) (hw.2 x hx)))
  have HV := hid (fun w' => vref_any g.ty w')
  obtain ⟨a, c, rfl⟩ := hr.shape
  obtain ⟨a2, c2, rfl, -⟩ := e1_at hl
  have hle : g.off.length ≤ 60 := hf.1.1
  clear hr hl hf hw
  obtain ⟨mo, ty, tb, off, xs⟩ := g
  simp only at *
  have HB0 : Hid (Bx1 w #[.int .i64 mo, .int .u8 ty, .int .u32 tb, .slice a off.length c, .slice a2 xs.length c2] 58 (w.alloc (.cells #[.int .i64 mo, .int .u8 ty, .int .u32 tb, .slice a off.length c, .slice a2 xs.length c2] 58))) := Bx1.mk0
  go_enter Tryd.func25, Tryd.ntmps25
  go_upto_region 1 with fail
  generalize w.alloc (.cells #[.int .i64 mo, .int .u8 ty, .int .u32 tb, .slice a off.length c, .slice a2 xs.length c2] 58) = w0 at *
  have z0 : w0.cell? ⟨w.heap.size, 0, none⟩ = some (.int .i64 mo) := HB0.out.at 0 rfl
  have z1 : w0.cell? ⟨w.heap.size, 1, none⟩ = some (.int .u8 ty) := HB0.out.at 1 rfl
  have z2 : w0.cell? ⟨w.heap.size, 2, none⟩ = some (.int .u32 tb) := HB0.out.at 2 rfl
  have z3 : w0.cell? ⟨w.heap.size, 3, none⟩ = some (.slice a off.length c) := HB0.out.at 3 rfl
  generalize Value.agg #[.int .i64 mo, .int .u8 ty, .int .u32 tb, .slice a off.length c, .slice a2 xs.length c2] = A0
  go_cut [27] (fun t wx => t = .bool (badE mo tb off.length) ∧ wx = w0)
  case first =>
    go_wp2_with fail
    all_goals go_meet
    all_goals refine ⟨?_, rfl⟩
    all_goals congr 1
    all_goals unfold badE
    all_goals rw [Bool.eq_iff_iff]
    all_goals simp only [Bool.or_eq_true, Bool.and_eq_true, decide_eq_true_eq, bne_iff_ne, ne_eq, Bool.false_eq_true, true_iff, false_iff]
    all_goals omega
  case rest =>
  obtain ⟨rfl, rfl⟩ := hcut
  cases hbad : badE mo tb off.length with
  | true =>
    replace hbad := hid hbad
    go_wp2_with fail
    go_ret
    exact ⟨_, rfl, iff_of_false (by decide) (fun h => Bool.noConfusion (hbad.out.symm.trans h.1)), HB0.out.1⟩
  | false =>
  replace hbad := hid hbad
  go_wp2_with fail
  refine (HV.out _).mono ?_
  rintro e w' ⟨rfl, rfl⟩
  cases hv : refV ty with
  | false =>
    replace hv := hid hv
    go_wp2_with fail
    go_ret
    exact ⟨_, rfl, iff_of_false (by decide) (fun h => Bool.noConfusion (hv.out.symm.trans h.2.1)), HB0.out.1⟩
  | true =>
  replace hv := hid hv
  go_wp2_with fail
  refine (HR.out _ HB0.out.1).mono ?_
  rintro e w1 ⟨b, rfl, hb, hn⟩
  have HB1 := hid (HB0.out.new hn)
  have HQ := hid hb
  have z4 : w1.cell? ⟨w.heap.size, 4, none⟩ = some (.slice a2 xs.length c2) := HB1.out.at 4 rfl
  clear hb hn z0 z1 z2 z3
  cases b with
  | false =>
    go_wp2_with fail
    go_ret
    exact ⟨_, rfl, iff_of_false (by decide) (fun h => by have := HQ.out.2 h.2.2.1; cases this), HB1.out.1⟩
  | true =>
  go_wp2_with fail
  refine (HC.out _ HB1.out.1).mono ?_
  rintro e w2 ⟨b, rfl, hb, hn⟩
  have HB2 := hid (HB1.out.new hn)
  have HQ2 := hid hb
  clear hb hn z4
  go_wp2_with fail
  go_ret
  refine ⟨!b, rfl, ?_, HB2.out.1⟩
  have h1 := HQ.out.1 (by first | rfl | trivial)
  have h2 := HQ2.out
  constructor
  · intro h
    refine ⟨hbad.out, hv.out, h1, fun x hx => Classical.byContradiction fun hn => ?_⟩
    have := h2.2 ⟨x, hx, hn⟩
    subst this
    cases h
  · intro h
    cases b with
    | false => rfl
    | true =>
      obtain ⟨x, hx, hn⟩ := h2.1 rfl
      exact absurd (h.2.2.2 x hx) hn
end Go.Proofs.YtbllpajibhiobaaDoor

namespace Go.Proofs.YtbllpajibhiobaaDoor
open Go.RowKit Go.Proofs.Leb Go.Proofs.Own
set_option maxRecDepth 100000
set_option maxHeartbeats 4000000

def md2 : Ins := ⟨0, 210, 0, 0, 0, 7, 0, [], 0, ⟨#[]⟩, 0, ⟨#[]⟩⟩
/-- is it just a function's number? -/
def isRefF (l : List Ins) : Prop := ∃ m, l = [m] ∧ m.p = 0 ∧ m.c = 210
theorem isRef_md {B : Nat → Prop} (u : Value) (w : World) (hr : FXP w B u [md2]) : Calls Tryd.prog 49 #[u] w (SameP True w) := by
  have hp : Tryd.prog.stoodInHeld 87 = false := by kernel_rfl
  have hg : Tryd.prog.eqGuardType Tryd.prog.depth 87 = false := by kernel_rfl
  obtain ⟨a, cap, rfl, hat⟩ := insP_at (show RdE 12 EP w B u [md2] from hr)
  obtain ⟨b, o, l, u', rfl, hc, -⟩ := hat 0 (by decide)
  have k0 : w.cell? ⟨b, o, none⟩ = some (.int .u8 0) := by simpa [md2] using (at12P hc).1
  have k1 : w.cell? ⟨b, o + 1, none⟩ = some (.int .u32 210) := by simpa [md2] using (at12P hc).2.1
  simp only [List.length_cons, List.length_nil]
  clear hat hr hc
  go_enter Tryd.func49, Tryd.ntmps49
  go_wp2_with fail
  go_ret
  exact ⟨_, rfl, by simp, Upd.refl _ _⟩
theorem not_md {B : Nat → Prop} (u : Value) (w : World) (hr : FXP w B u [md2]) : Calls Tryd.prog 48 #[u] w (SameP False w) := by
  have HR := hid (isRef_md u w hr)
  obtain ⟨a, c, rfl⟩ : ∃ a c, u = .slice a 1 c := RdE.shape hr
  clear hr
  go_enter Tryd.func48, Tryd.ntmps48
  go_wp2_with fail
  refine HR.out.mono ?_
  rintro e w1 ⟨b, rfl, hb, hn⟩
  have HB := hid hb
  have HN := hid hn
  clear hb hn
  go_wp2_with fail
  go_ret
  refine ⟨!b, rfl, ?_, HN.out⟩
  have := HB.out.2 trivial
  subst this
  simp
def FormP (w : World) (e : Ending) (w' : World) : Prop := e = .returned (.agg #[.int .i64 1, .bool false, .bool true, .bool false]) ∧ New w w'
theorem form_md {B : Nat → Prop} (l : Value) (w : World) (hr : RdE 1 (E1 FXP) w B l [[md2]]) :
    Calls Tryd.prog 36 #[.agg #[.int .i64 1, .int .u8 112, .int .u32 0, .slice none 0 0, l]] w (FormP w) := by
  have HC := hid (fun w' (hn : New w w') => conLL48 (fun _ => False) l [[md2]] w' (hr.new (E1.ok FXP.ok) hn) (by decide) (fun x u w2 hx hu => by
    have e : x = [md2] := by simpa using hx
    subst e
    exact not_md u w2 hu))
  obtain ⟨a, c, rfl⟩ := hr.shape
  clear hr
  have HW : Hid (One w #[.int .i64 1, .int .u8 112, .int .u32 0, .slice none 0 0, .slice a 1 c] 58 ((w.alloc (.cells #[.int .i64 1, .int .u8 112, .int .u32 0, .slice none 0 0, .slice a 1 c] 58)).alloc (.cells #[.int .i64 0, .bool false, .bool false, .bool false] 107))) := One.mk0
  have HZ : Hid (((w.alloc (.cells #[.int .i64 1, .int .u8 112, .int .u32 0, .slice none 0 0, .slice a 1 c] 58)).alloc (.cells #[.int .i64 0, .bool false, .bool false, .bool false] 107)).heap[w.heap.size + 1]? = some (.cells #[.int .i64 0, .bool false, .bool false, .bool false] 107)) := One.mk2
  simp only [List.length_cons, List.length_nil]
  go_enter Tryd.func36, Tryd.ntmps36
  go_upto_region 1 with fail
  generalize (w.alloc (.cells #[.int .i64 1, .int .u8 112, .int .u32 0, .slice none 0 0, .slice a 1 c] 58)).alloc (.cells #[.int .i64 0, .bool false, .bool false, .bool false] 107) = w0 at *
  have z0 : w0.cell? ⟨w.heap.size, 0, none⟩ = some (.int .i64 1) := HW.out.at1 0 rfl
  have z1 : w0.cell? ⟨w.heap.size, 1, none⟩ = some (.int .u8 112) := HW.out.at1 1 rfl
  have z2 : w0.cell? ⟨w.heap.size, 2, none⟩ = some (.int .u32 0) := HW.out.at1 2 rfl
  go_wp2_with fail
  have hn := HW.out.new (Upd.refl _ w0).drew
  have hz : w0.drew.heap[w.heap.size + 1]? = some (.cells #[.int .i64 0, .bool false, .bool false, .bool false] 107) := HZ.out
  clear z0 z1 z2
  refine wp_region_noPanic ?_
  refine wp_region_held_drew (S := (One w #[.int .i64 1, .int .u8 112, .int .u32 0, .slice none 0 0, .slice a 1 c] 58)) (by kernel_rfl) (by first | exact hn | exact (Upd.refl _ _).drew | exact Upd.drew (by assumption)) (fun hn => ?_)
  generalize w0.drew = wd at *
  refine wpAnyH_take (i := 0) (oi := { dst := some 20, op := Op.fieldAddr 58 (Operand.tmp 1) 0, type := 0, pos := "entry.go:185", after := #[], guard := none }) (v := ?v32x1) rfl (by kernel_rfl) (by kernel_rfl) (by kernel_rfl) (fun _ _ _ h => h) (Or.inl ⟨by rfl, ?y32x1⟩) hn ?r32x1
  case y32x1 => (intro wS hS; (try go_simp); (try with_reducible rfl))
  try simp only [Act.put, List.setIfInBounds_toArray, List.set_cons_zero, List.set_cons_succ]
  refine wpAnyH_take (i := 1) (oi := { dst := some 21, op := Op.load 3 (Operand.tmp 20), type := 3, pos := "entry.go:185", after := #[{ on := 0, ground := Ground.data }], guard := none }) (v := ?v32x2) rfl (by kernel_rfl) (by kernel_rfl) (by kernel_rfl) (fun _ _ _ h => h) (Or.inl ⟨by rfl, ?y32x2⟩) hn ?r32x2
  case y32x2 => (intro wS hS; have c0 : wS.cell? ⟨w.heap.size, 0, none⟩ = some (.int .i64 1) := hS.at1 0 rfl; (try go_simp); (try with_reducible rfl))
  try simp only [Act.put, List.setIfInBounds_toArray, List.set_cons_zero, List.set_cons_succ]
  refine wpAnyH_take (i := 2) (oi := { dst := some 22, op := Op.fieldAddr 58 (Operand.tmp 1) 0, type := 0, pos := "entry.go:185", after := #[], guard := none }) (v := ?v32x3) rfl (by kernel_rfl) (by kernel_rfl) (by kernel_rfl) (fun _ _ _ h => h) (Or.inl ⟨by rfl, ?y32x3⟩) hn ?r32x3
  case y32x3 => (intro wS hS; (try go_simp); (try with_reducible rfl))
  try simp only [Act.put, List.setIfInBounds_toArray, List.set_cons_zero, List.set_cons_succ]
  refine wpAnyH_take (i := 3) (oi := { dst := some 23, op := Op.load 3 (Operand.tmp 22), type := 3, pos := "entry.go:185", after := #[{ on := 2, ground := Ground.data }], guard := none }) (v := ?v32x4) rfl (by kernel_rfl) (by kernel_rfl) (by kernel_rfl) (fun _ _ _ h => h) (Or.inl ⟨by rfl, ?y32x4⟩) hn ?r32x4
  case y32x4 => (intro wS hS; have c0 : wS.cell? ⟨w.heap.size, 0, none⟩ = some (.int .i64 1) := hS.at1 0 rfl; (try go_simp); (try with_reducible rfl))
  try simp only [Act.put, List.setIfInBounds_toArray, List.set_cons_zero, List.set_cons_succ]
  refine wpAnyH_take (i := 4) (oi := { dst := some 24, op := Op.binOp BinOp.eql 3 (Operand.tmp 23) (Operand.const (Value.int IntKind.i64 0)) 3, type := 4, pos := "entry.go:185", after := #[{ on := 3, ground := Ground.data }], guard := none }) (v := ?v32x5) rfl (by kernel_rfl) (by kernel_rfl) (by kernel_rfl) (fun _ _ _ h => h) (Or.inl ⟨by rfl, ?y32x5⟩) hn ?r32x5
  case y32x5 => (intro wS hS; (try go_simp); (try with_reducible rfl))
  try simp only [Act.put, List.setIfInBounds_toArray, List.set_cons_zero, List.set_cons_succ]
  refine wpAnyH_take (i := 5) (oi := { dst := some 25, op := Op.move (Operand.tmp 24), type := 4, pos := "entry.go:185", after := #[{ on := 4, ground := Ground.data }], guard := none }) (v := ?v32x6) rfl (by kernel_rfl) (by kernel_rfl) (by kernel_rfl) (fun _ _ _ h => h) (Or.inl ⟨by rfl, ?y32x6⟩) hn ?r32x6
  case y32x6 => (intro wS hS; (try go_simp); (try with_reducible rfl))
  try simp only [Act.put, List.setIfInBounds_toArray, List.set_cons_zero, List.set_cons_succ]
  refine wpAnyH_take (i := 6) (oi := { dst := some 26, op := Op.move (Operand.tmp 4), type := 4, pos := "entry.go:185", after := #[{ on := 5, ground := Ground.guard }], guard := some (5, true) }) (v := undef) rfl (by kernel_rfl) (by kernel_rfl) (by kernel_rfl) (fun _ _ _ h => h) (Or.inr ⟨by rfl, rfl⟩) hn ?_
  try simp only [Act.put, List.setIfInBounds_toArray, List.set_cons_zero, List.set_cons_succ]
  refine wpAnyH_take (i := 7) (oi := { dst := some 27, op := Op.pick (Operand.tmp 25) (Operand.tmp 26) (Operand.const (Value.bool false)), type := 4, pos := "entry.go:185", after := #[{ on := 5, ground := Ground.data }, { on := 6, ground := Ground.data }], guard := none }) (v := ?v32x8) rfl (by kernel_rfl) (by kernel_rfl) (by kernel_rfl) (fun _ _ _ h => h) (Or.inl ⟨by rfl, ?y32x8⟩) hn ?r32x8
  case y32x8 => (intro wS hS; (try go_simp); (try with_reducible rfl))
  try simp only [Act.put, List.setIfInBounds_toArray, List.set_cons_zero, List.set_cons_succ]
  refine wpAnyH_take (i := 8) (oi := { dst := some 28, op := Op.move (Operand.tmp 4), type := 4, pos := "entry.go:185", after := #[], guard := none }) (v := ?v32x9) rfl (by kernel_rfl) (by kernel_rfl) (by kernel_rfl) (fun _ _ _ h => h) (Or.inl ⟨by rfl, ?y32x9⟩) hn ?r32x9
  case y32x9 => (intro wS hS; (try go_simp); (try with_reducible rfl))
  try simp only [Act.put, List.setIfInBounds_toArray, List.set_cons_zero, List.set_cons_succ]
  refine wpAnyH_take (i := 9) (oi := { dst := some 29, op := Op.move (Operand.tmp 3), type := 4, pos := "entry.go:185", after := #[], guard := none }) (v := ?v32x10) rfl (by kernel_rfl) (by kernel_rfl) (by kernel_rfl) (fun _ _ _ h => h) (Or.inl ⟨by rfl, ?y32x10⟩) hn ?r32x10
  case y32x10 => (intro wS hS; (try go_simp); (try with_reducible rfl))
  try simp only [Act.put, List.setIfInBounds_toArray, List.set_cons_zero, List.set_cons_succ]
  refine wpAnyH_take (i := 10) (oi := { dst := some 30, op := Op.unOp UnOp.not 4 (Operand.tmp 29), type := 4, pos := "entry.go:185", after := #[{ on := 9, ground := Ground.data }], guard := none }) (v := ?v32x11) rfl (by kernel_rfl) (by kernel_rfl) (by kernel_rfl) (fun _ _ _ h => h) (Or.inl ⟨by rfl, ?y32x11⟩) hn ?r32x11
  case y32x11 => (intro wS hS; (try go_simp); (try with_reducible rfl))
  try simp only [Act.put, List.setIfInBounds_toArray, List.set_cons_zero, List.set_cons_succ]
  refine wpAnyH_take (i := 11) (oi := { dst := some 31, op := Op.move (Operand.tmp 30), type := 4, pos := "entry.go:185", after := #[{ on := 10, ground := Ground.data }, { on := 5, ground := Ground.chain }], guard := none }) (v := ?v32x12) rfl (by kernel_rfl) (by kernel_rfl) (by kernel_rfl) (fun _ _ _ h => h) (Or.inl ⟨by rfl, ?y32x12⟩) hn ?r32x12
  case y32x12 => (intro wS hS; (try go_simp); (try with_reducible rfl))
  try simp only [Act.put, List.setIfInBounds_toArray, List.set_cons_zero, List.set_cons_succ]
  refine wpAnyH_take (i := 12) (oi := { dst := some 32, op := Op.fieldAddr 58 (Operand.tmp 1) 4, type := 0, pos := "entry.go:185", after := #[{ on := 11, ground := Ground.guard }], guard := some (11, false) }) (v := ?v32x13) rfl (by kernel_rfl) (by kernel_rfl) (by kernel_rfl) (fun _ _ _ h => h) (Or.inl ⟨by rfl, ?y32x13⟩) hn ?r32x13
  case y32x13 => (intro wS hS; (try go_simp); (try with_reducible rfl))
  try simp only [Act.put, List.setIfInBounds_toArray, List.set_cons_zero, List.set_cons_succ]
  refine wpAnyH_take (i := 13) (oi := { dst := some 33, op := Op.load 56 (Operand.tmp 32), type := 56, pos := "entry.go:185", after := #[{ on := 12, ground := Ground.data }, { on := 11, ground := Ground.guard }], guard := some (11, false) }) (v := ?v32x14) rfl (by kernel_rfl) (by kernel_rfl) (by kernel_rfl) (fun _ _ _ h => h) (Or.inl ⟨by rfl, ?y32x14⟩) hn ?r32x14
  case y32x14 => (intro wS hS; have c0 : wS.cell? ⟨w.heap.size, 4, none⟩ = some (.slice a 1 c) := hS.at1 4 rfl; (try go_simp); (try with_reducible rfl))
  try simp only [Act.put, List.setIfInBounds_toArray, List.set_cons_zero, List.set_cons_succ]
  refine wpAnyH_ready (rs := [14]) (by kernel_rfl) (by simp) ?_
  refine AllReadyH.cons (o := { dst := some 34, op := Op.call { callee := Callee.value (Operand.func 35), args := #[Operand.tmp 33, Operand.func 48], argTypes := #[56, 104] }, type := 4, pos := "entry.go:189", after := #[{ on := 13, ground := Ground.data }, { on := 11, ground := Ground.chain }, { on := 11, ground := Ground.guard }], guard := some (11, false) }) rfl (fun K hK => ?_) AllReadyH.nil
  go_simp
  refine (HC.out _ hn.1).mono ?_
  rintro e wq ⟨b, rfl, hb, hnq⟩
  (obtain rfl : b = false := by cases b with | false => rfl | true => (obtain ⟨_, _, h⟩ := hb.1 rfl; exact h.elim))
  clear hb
  go_wp2_with fail
  have hn := hn.new hnq
  have hz := hp1 hz hnq
  refine hK.out _ _ (by first | exact hn | exact Upd.alloc hn _) (fun hn => ?_)
  clear hK K
  try simp only [Act.put, List.setIfInBounds_toArray, List.set_cons_zero, List.set_cons_succ]
  refine wpAnyH_take (i := 15) (oi := { dst := some 35, op := Op.pick (Operand.tmp 31) (Operand.const (Value.bool true)) (Operand.tmp 34), type := 4, pos := "entry.go:185", after := #[{ on := 11, ground := Ground.data }, { on := 14, ground := Ground.data }], guard := none }) (v := ?v32x15) rfl (by kernel_rfl) (by kernel_rfl) (by kernel_rfl) (fun _ _ _ h => h) (Or.inl ⟨by rfl, ?y32x15⟩) hn ?r32x15
  case y32x15 => (intro wS hS; (try go_simp); (try with_reducible rfl))
  try simp only [Act.put, List.setIfInBounds_toArray, List.set_cons_zero, List.set_cons_succ]
  refine wpAnyH_take (i := 16) (oi := { dst := some 36, op := Op.build 107 #[(0, Operand.tmp 21), (1, Operand.tmp 27), (2, Operand.tmp 28), (3, Operand.tmp 35)], type := 107, pos := "entry.go:185", after := #[{ on := 1, ground := Ground.data }, { on := 7, ground := Ground.data }, { on := 8, ground := Ground.data }, { on := 15, ground := Ground.data }], guard := none }) (v := ?v32x16) rfl (by kernel_rfl) (by kernel_rfl) (by kernel_rfl) (fun _ _ _ h => h) (Or.inl ⟨by rfl, ?y32x16⟩) hn ?r32x16
  case y32x16 => (intro wS hS; (try go_simp); (try with_reducible rfl))
  try simp only [Act.put, List.setIfInBounds_toArray, List.set_cons_zero, List.set_cons_succ]
  refine wpAnyH_ready (rs := [17]) (by kernel_rfl) (by simp) ?_
  refine AllReadyH.cons (o := { dst := none, op := Op.store 107 (Operand.tmp 2) (Operand.tmp 36), type := 0, pos := "entry.go:185", after := #[{ on := 16, ground := Ground.data }, { on := 14, ground := Ground.chain }, { on := 0, ground := Ground.phase }, { on := 1, ground := Ground.phase }, { on := 2, ground := Ground.phase }, { on := 3, ground := Ground.phase }, { on := 4, ground := Ground.phase }, { on := 5, ground := Ground.phase }, { on := 6, ground := Ground.phase }, { on := 7, ground := Ground.phase }, { on := 8, ground := Ground.phase }, { on := 9, ground := Ground.phase }, { on := 10, ground := Ground.phase }, { on := 11, ground := Ground.phase }, { on := 12, ground := Ground.phase }, { on := 13, ground := Ground.phase }, { on := 14, ground := Ground.phase }, { on := 15, ground := Ground.phase }, { on := 16, ground := Ground.phase }], guard := none }) rfl (fun K hK => ?_) AllReadyH.nil
  refine step_store_row 107 _ _ rfl rfl (w.heap.size + 1) #[.int .i64 1, .bool false, .bool true, .bool false] rfl rfl 107 _ hz (by kernel_rfl) rfl (by simp [Value.oneCell']) ?_
  obtain ⟨hus, hbs⟩ := run_setRow (cs := #[.int .i64 1, .bool false, .bool true, .bool false]) hz
  have hn := hn.set hus
  refine hK.out _ _ (by first | exact hn | exact Upd.alloc hn _) (fun hn => ?_)
  clear hK K
  try simp only [Act.put, List.setIfInBounds_toArray, List.set_cons_zero, List.set_cons_succ]
  refine wpAnyH_done (by kernel_rfl) ?_ _
  refine NoPanic.normal ?_
  go_wp2_with fail
  exact ret_agg rfl Tryd.underlying107 rfl (w.heap.size + 1) #[.int .i64 1, .bool false, .bool true, .bool false] 107 (by kernel_rfl) rfl rfl hbs ⟨rfl, hn.1⟩
end Go.Proofs.YtbllpajibhiobaaDoor

namespace Go.Proofs.YtbllpajibhiobaaDoor
open Go.RowKit Go.Proofs.Leb Go.Proofs.Own
set_option maxRecDepth 100000
set_option maxHeartbeats 8000000

theorem run_loadVar_at {P : Program} (w : World) (b off : Nat) (ty : TypeId) (cs : Array Value) (d : TypeDesc) (hc : ∀ j v, cs[j]? = some v → w.cell? ⟨b, off + j, none⟩ = some v)
    (hu : P.underlying ty = some d) (hd : (match d with | .struct _ | .array _ _ => true | _ => false) = true) (hi : (P.info? ty).map (·.size) = some cs.size) :
    (loadVar ty ⟨b, off, none⟩).run P w = .ok (.agg cs) w := by
  have hl : (loadCells ⟨b, off, none⟩ cs.toList.length).run P w = .ok cs.toList.toArray w :=
    run_loadCells_list (P := P) w ⟨b, off, none⟩ cs.toList (fun j v hv => by
      rw [Addr.add_lit]
      exact hc j v (by simpa using hv))
  cases hq : P.info? ty with
  | none => simp [hq] at hi
  | some i =>
    have hs : i.size = cs.size := by simpa [hq] using hi
    have hagg : (isAgg ty).run P w = .ok true w := by
      unfold isAgg
      rw [Sem.run_bind, run_underlying hu w]
      cases d <;> simp_all
    simp only [Array.length_toList, Array.toArray_toList] at hl
    simp [loadVar, Sem.run_bind, hagg, sizeOf, typeInfo, hq, hs, hl]
theorem wpList_load_at {P : Program} {ops : Array Oper} {rest : List Oper} {o : Oper} {a : Act} {w : World} {Q : Exit → Act → World → Prop} (hgd : o.guard = none) (ty : TypeId) (x : Operand) (ho : o.op = .load ty x)
    (b off : Nat) (hx : a.eval x = .pointer (some ⟨b, off, none⟩)) (cs : Array Value) (d : TypeDesc) (hc : ∀ j v, cs[j]? = some v → w.cell? ⟨b, off + j, none⟩ = some v)
    (hu : P.underlying ty = some d) (hd : (match d with | .struct _ | .array _ _ => true | _ => false) = true) (hi : (P.info? ty).map (·.size) = some cs.size)
    (h : wpList P ops Q rest (a.put o.dst (.agg cs)) w) : wpList P ops Q (o :: rest) a w := by
  refine wpList_plain hgd fun _ hK => ?_
  unfold Oper.wp execOp
  simp only [ho, hx, Instr.loadAt, Instr.sureAddr, Sem.run_bind, Sem.run_pure, Result.andThen_ok, run_loadVar_at w b off ty cs d hc hu hd hi]
  exact hK _ _ h
/-- the forms of elements, as they are laid -/
def fTab : Array Value := #[.int .i64 0, .bool false, .bool false, .bool false, .int .i64 1, .bool false, .bool true, .bool false, .int .i64 0, .bool true, .bool true, .bool false, .int .i64 2, .bool false, .bool true, .bool false,
  .int .i64 0, .bool false, .bool false, .bool true, .int .i64 1, .bool false, .bool true, .bool true, .int .i64 0, .bool true, .bool true, .bool true, .int .i64 2, .bool false, .bool true, .bool true]
theorem fIx0 (w : World) : (Instr.index 109 (.agg fTab) (.int .i64 0)).run Tryd.prog w = .ok (.agg #[.int .i64 0, .bool false, .bool false, .bool false]) w := by kernel_rfl
theorem fIx1 (w : World) : (Instr.index 109 (.agg fTab) (.int .i64 1)).run Tryd.prog w = .ok (.agg #[.int .i64 1, .bool false, .bool true, .bool false]) w := by kernel_rfl
theorem fIx2 (w : World) : (Instr.index 109 (.agg fTab) (.int .i64 2)).run Tryd.prog w = .ok (.agg #[.int .i64 0, .bool true, .bool true, .bool false]) w := by kernel_rfl
theorem fIx3 (w : World) : (Instr.index 109 (.agg fTab) (.int .i64 3)).run Tryd.prog w = .ok (.agg #[.int .i64 2, .bool false, .bool true, .bool false]) w := by kernel_rfl
theorem fIx4 (w : World) : (Instr.index 109 (.agg fTab) (.int .i64 4)).run Tryd.prog w = .ok (.agg #[.int .i64 0, .bool false, .bool false, .bool true]) w := by kernel_rfl
theorem fIx5 (w : World) : (Instr.index 109 (.agg fTab) (.int .i64 5)).run Tryd.prog w = .ok (.agg #[.int .i64 1, .bool false, .bool true, .bool true]) w := by kernel_rfl
theorem fIx6 (w : World) : (Instr.index 109 (.agg fTab) (.int .i64 6)).run Tryd.prog w = .ok (.agg #[.int .i64 0, .bool true, .bool true, .bool true]) w := by kernel_rfl
theorem fIx7 (w : World) : (Instr.index 109 (.agg fTab) (.int .i64 7)).run Tryd.prog w = .ok (.agg #[.int .i64 2, .bool false, .bool true, .bool true]) w := by kernel_rfl
def Fms (w : World) : Prop := ∀ j v, fTab[j]? = some v → w.cell? ⟨0, 0 + j, none⟩ = some v
theorem Fms.new {w w' : World} (h : Fms w) (hn : New w w') : Fms w' := fun j v hj => hn.cell (h j v hj) (fun h => h)
theorem addsFr {w a b : World} {v v' : Value} (h : Fresh w v) (hn : New w a) (ha : Adds a b v v') : Fresh w v' := by
  intro k hk
  rcases ha.at' with e | ⟨j, e, hj⟩
  · exact h k (by rw [← e]; exact hk)
  · rw [e] at hk; cases hk; exact Nat.le_trans hn.size hj
theorem putE_md {B : Nat → Prop} (l : Value) (w : World) (hF : Fms w) (hr : RdE 1 (E1 FXP) w B l [[md2]]) :
    Calls Tryd.prog 26 #[.agg #[.int .i64 1, .int .u8 112, .int .u32 0, .slice none 0 0, l], .slice none 0 0] w (PostN w [1, 0, 1, 7]) := by
  have hp : Tryd.prog.stoodInHeld 107 = false := by kernel_rfl
  have hg : Tryd.prog.eqGuardType Tryd.prog.depth 107 = false := by kernel_rfl
  have HF := hid (fun w' (hn : New w w') => form_md l w' (hr.new (E1.ok FXP.ok) hn))
  obtain ⟨a, c, rfl, hat⟩ := e1_at hr
  obtain ⟨b, o, u, rfl, hc, hu⟩ := hat 0 (by decide)
  have HC := hid hc
  obtain ⟨ua, uc, rfl, hut⟩ := insP_at (show RdE 12 EP w B u [md2] from hu)
  obtain ⟨b2, o2, l2, u2, rfl, hc2, -⟩ := hut 0 (by decide)
  have HX : Hid (∀ w', New w w' → w'.cell? ⟨b2, o2 + 5, none⟩ = some (.int .u32 7)) := fun w' hn => by simpa [md2] using (at12P (hc2.new hn)).2.2.2.2.2.1
  have HF0 := hid hF
  simp only [List.length_cons, List.length_nil, Nat.zero_add, Nat.add_zero] at *
  clear hr hat hc hu hut hc2 hF
  have HB0 : Hid (Bx1 w #[.int .i64 1, .int .u8 112, .int .u32 0, .slice none 0 0, .slice (some ⟨b, o, none⟩) 1 c] 58 (w.alloc (.cells #[.int .i64 1, .int .u8 112, .int .u32 0, .slice none 0 0, .slice (some ⟨b, o, none⟩) 1 c] 58))) := Bx1.mk0
  go_enter Tryd.func26, Tryd.ntmps26
  go_upto_region 1 with fail
  generalize w.alloc (.cells #[.int .i64 1, .int .u8 112, .int .u32 0, .slice none 0 0, .slice (some ⟨b, o, none⟩) 1 c] 58) = w0 at *
  have z0 : w0.cell? ⟨w.heap.size, 0, none⟩ = some (.int .i64 1) := HB0.out.at 0 rfl
  have z1 : w0.cell? ⟨w.heap.size, 1, none⟩ = some (.int .u8 112) := HB0.out.at 1 rfl
  have z2 : w0.cell? ⟨w.heap.size, 2, none⟩ = some (.int .u32 0) := HB0.out.at 2 rfl
  have z3 : w0.cell? ⟨w.heap.size, 3, none⟩ = some (.slice none 0 0) := HB0.out.at 3 rfl
  have z4 : w0.cell? ⟨w.heap.size, 4, none⟩ = some (.slice (some ⟨b, o, none⟩) 1 c) := HB0.out.at 4 rfl
  go_wp2_with fail
  unfold FormP at HF
  refine (HF.out _ HB0.out.1).mono ?_
  rintro e w1 ⟨rfl, hn⟩
  have HB1 := hid (HB0.out.new hn)
  clear hn z0 z1 z2 z3 z4
  go_upto_region 2 with fail
  have HB5 := hid (HB1.out.new ((Upd.refl _ _).alloc (.cells #[.int .i64 1, .bool false, .bool true, .bool false] 107)))
  have HQ5 : Hid ((w1.alloc (.cells #[.int .i64 1, .bool false, .bool true, .bool false] 107)).heap[w1.heap.size]? = some (.cells #[.int .i64 1, .bool false, .bool true, .bool false] 107)) := hp_new rfl
  generalize w1.alloc (.cells #[.int .i64 1, .bool false, .bool true, .bool false] 107) = w5 at *
  generalize w1.heap.size = g5 at *
  have HF5 := hid (HF0.out.new HB5.out.1)
  go_wp2_with (refine wpList_load_at rfl 109 _ rfl 0 0 rfl fTab _ HF5.out Tryd.underlying109 rfl (by kernel_rfl) ?_)
  clear HF HF5 HF0 HB1 HB0
  go_loopw [1, 13] (fun v c wr => ∃ i : Nat, c = .int .i64 i ∧ i ≤ 8 ∧ Bytes wr v (if i ≤ 1 then [] else [1]) ∧ New w5 wr ∧ Fresh w5 v) (fun _ c _ => 8 - (intOf c).toNat)
  case atStart => exact ⟨0, rfl, by omega, Bytes.nil _, Upd.refl _ _, fun k h => by cases h⟩
  case round =>
    obtain ⟨i, rfl, hi1, hby, hnw, hfr⟩ := hrel
    have HBY := hid hby
    have HN := hid hnw
    have HFR := hid hfr
    obtain ⟨va, vn, vc, rfl⟩ := Bytes.slice hby
    have q0 : wr.cell? ⟨g5, 0, none⟩ = some (.int .i64 1) := cellAt (hp1 HQ5.out hnw) 0 rfl
    have q1 : wr.cell? ⟨g5, 1, none⟩ = some (.bool false) := cellAt (hp1 HQ5.out hnw) 1 rfl
    have q2 : wr.cell? ⟨g5, 2, none⟩ = some (.bool true) := cellAt (hp1 HQ5.out hnw) 2 rfl
    have q3 : wr.cell? ⟨g5, 3, none⟩ = some (.bool false) := cellAt (hp1 HQ5.out hnw) 3 rfl
    have Q0 := hid q0
    have Q1 := hid q1
    have Q2 := hid q2
    have Q3 := hid q3
    have r0 : ∀ ob, (wr.alloc ob).cell? ⟨g5, 0, none⟩ = some (.int .i64 1) := fun ob => ((Upd.refl (fun _ => False) wr).alloc ob).cell Q0.out (fun h => h)
    have r1 : ∀ ob, (wr.alloc ob).cell? ⟨g5, 1, none⟩ = some (.bool false) := fun ob => ((Upd.refl (fun _ => False) wr).alloc ob).cell Q1.out (fun h => h)
    have r2 : ∀ ob, (wr.alloc ob).cell? ⟨g5, 2, none⟩ = some (.bool true) := fun ob => ((Upd.refl (fun _ => False) wr).alloc ob).cell Q2.out (fun h => h)
    have r3 : ∀ ob, (wr.alloc ob).cell? ⟨g5, 3, none⟩ = some (.bool false) := fun ob => ((Upd.refl (fun _ => False) wr).alloc ob).cell Q3.out (fun h => h)
    clear q0 q1 q2 q3 hby hnw hfr
    by_cases hi : i < 8
    · by_cases hi2 : i = 1
      · subst hi2
        have HP : Hid (∀ ob, Calls Tryd.prog 37 #[.slice va vn vc, .int .u64 1] (wr.alloc ob) (Post (wr.alloc ob) (.slice va vn vc) [1])) := by
          show ∀ ob, _
          intro ob
          have := putU_any (.slice va vn vc) [] 1 (wr.alloc ob) (by decide) (by decide) (HBY.out.new ((Upd.refl _ _).alloc ob))
          rw [show ([] : List UInt8) ++ encU 1 0 = [1] by simp [encU_last]] at this
          exact this
        have hix := fIx1
        go_wp2_with fail
        refine (HP.out _).mono ?_
        rintro e w6 ⟨v', rfl, hb6, ha6⟩
        have HBY6 := hid hb6
        have HN6 := hid (Upd.newAdds (HN.out.alloc _) HFR.out ha6)
        have HF6 := hid (addsFr HFR.out (HN.out.alloc _) ha6)
        obtain ⟨va', vn', vc', rfl⟩ := Bytes.slice hb6
        clear hb6 ha6
        go_wp2_with fail
        go_roundw
        case rel => exact ⟨2, by go_num, by omega, HBY6.out, HN6.out, HF6.out⟩
        case measure => simp [intOf]
      · have h : i = 0 ∨ i = 2 ∨ i = 3 ∨ i = 4 ∨ i = 5 ∨ i = 6 ∨ i = 7 := by omega
        clear hi hi1 hi2
        rcases h with rfl | rfl | rfl | rfl | rfl | rfl | rfl
        · have hix := fIx0
          go_wp2_with fail
          go_roundw
          case rel => exact ⟨1, by go_num, by omega, HBY.out.new ((Upd.refl _ _).alloc _), HN.out.alloc _, HFR.out⟩
          case measure => simp [intOf]
        · have hix := fIx2
          go_wp2_with fail
          go_roundw
          case rel => exact ⟨3, by go_num, by omega, HBY.out.new ((Upd.refl _ _).alloc _), HN.out.alloc _, HFR.out⟩
          case measure => simp [intOf]
        · have hix := fIx3
          go_wp2_with fail
          go_roundw
          case rel => exact ⟨4, by go_num, by omega, HBY.out.new ((Upd.refl _ _).alloc _), HN.out.alloc _, HFR.out⟩
          case measure => simp [intOf]
        · have hix := fIx4
          go_wp2_with fail
          go_roundw
          case rel => exact ⟨5, by go_num, by omega, HBY.out.new ((Upd.refl _ _).alloc _), HN.out.alloc _, HFR.out⟩
          case measure => simp [intOf]
        · have hix := fIx5
          go_wp2_with fail
          go_roundw
          case rel => exact ⟨6, by go_num, by omega, HBY.out.new ((Upd.refl _ _).alloc _), HN.out.alloc _, HFR.out⟩
          case measure => simp [intOf]
        · have hix := fIx6
          go_wp2_with fail
          go_roundw
          case rel => exact ⟨7, by go_num, by omega, HBY.out.new ((Upd.refl _ _).alloc _), HN.out.alloc _, HFR.out⟩
          case measure => simp [intOf]
        · have hix := fIx7
          go_wp2_with fail
          go_roundw
          case rel => exact ⟨8, by go_num, by omega, HBY.out.new ((Upd.refl _ _).alloc _), HN.out.alloc _, HFR.out⟩
          case measure => simp [intOf]
    · obtain rfl : i = 8 := by omega
      have z3 : wr.cell? ⟨w.heap.size, 3, none⟩ = some (.slice none 0 0) := (HB5.out.new HN.out).at 3 rfl
      have z4 : wr.cell? ⟨w.heap.size, 4, none⟩ = some (.slice (some ⟨b, o, none⟩) 1 c) := (HB5.out.new HN.out).at 4 rfl
      have z2 : wr.cell? ⟨w.heap.size, 2, none⟩ = some (.int .u32 0) := (HB5.out.new HN.out).at 2 rfl
      have q1 := Q1.out
      have q0 := Q0.out
      have q2 := Q2.out
      have q3 := Q3.out
      clear r0 r1 r2 r3
      have hb8 : Bytes wr (.slice va vn vc) [1] := HBY.out
      have HB8 := hid hb8
      clear hb8
      go_wp2_with (at_builtin; refine hold ?_)
      refine appB (.tmp 54) (.tmp 55) 0 HB8.out rfl (by simp) rfl rfl rfl rfl ?_
      intro v' w6 hb6 ha6
      have HBY6 := hid hb6
      have HN6 := hid (Upd.newAdds HN.out HFR.out ha6)
      have HF6 := hid (addsFr HFR.out HN.out ha6)
      obtain ⟨va', vn', vc', rfl⟩ := Bytes.slice hb6
      have z4 : w6.cell? ⟨w.heap.size, 4, none⟩ = some (.slice (some ⟨b, o, none⟩) 1 c) := (HB5.out.new HN6.out).at 4 rfl
      clear hb6 ha6 z3 z2 q0 q1 q2 q3
      have HP := hid (putU_any (.slice va' vn' vc') [1, 0] 1 w6 (by decide) (by decide) HBY6.out)
      rw [show ([1, 0] : List UInt8) ++ encU 1 0 = [1, 0, 1] by simp [encU_last]] at HP
      go_wp2_with fail
      refine HP.out.mono ?_
      rintro e w7 ⟨v', rfl, hb7, ha7⟩
      have HBY7 := hid hb7
      have HN7 := hid (Upd.newAdds HN6.out HF6.out ha7)
      have HF7 := hid (addsFr HF6.out HN6.out ha7)
      obtain ⟨va7, vn7, vc7, rfl⟩ := Bytes.slice hb7
      have z4 : w7.cell? ⟨w.heap.size, 4, none⟩ = some (.slice (some ⟨b, o, none⟩) 1 c) := (HB5.out.new HN7.out).at 4 rfl
      clear hb7 ha7 HP
      go_wp2_with fail
      clear z4
      go_loopw [1, 66] (fun v c wr => ∃ i : Nat, c = .int .i64 i ∧ i ≤ 1 ∧ Bytes wr v (if i = 0 then [1, 0, 1] else [1, 0, 1, 7]) ∧ New w5 wr ∧ Fresh w5 v) (fun _ c _ => 1 - (intOf c).toNat)
      case atStart => exact ⟨0, rfl, by omega, HBY7.out, HN7.out, HF7.out⟩
      case round =>
        obtain ⟨i, rfl, hi1, hby, hnw, hfr⟩ := hrel
        have HBY9 := hid hby
        have HN9 := hid hnw
        have HFR9 := hid hfr
        obtain ⟨va9, vn9, vc9, rfl⟩ := Bytes.slice hby
        have q3 : wr.cell? ⟨g5, 3, none⟩ = some (.bool false) := cellAt (hp1 HQ5.out hnw) 3 rfl
        have k0 := (New.trans HB5.out.1 hnw).cell HC.out (fun h => h)
        have k1 := HX.out _ (New.trans HB5.out.1 hnw)
        clear hby hnw hfr
        by_cases hi : i < 1
        · obtain rfl : i = 0 := by omega
          have HP : Hid (Calls Tryd.prog 37 #[.slice va9 vn9 vc9, .int .u64 7] wr (Post wr (.slice va9 vn9 vc9) [1, 0, 1, 7])) := by
            have := putU_any (.slice va9 vn9 vc9) [1, 0, 1] 7 wr (by decide) (by decide) HBY9.out
            rw [show ([1, 0, 1] : List UInt8) ++ encU 7 0 = [1, 0, 1, 7] by simp [encU_last]] at this
            exact this
          go_wp2_with fail
          refine HP.out.mono ?_
          rintro e w8 ⟨v', rfl, hb8, ha8⟩
          have HBY8 := hid hb8
          have HN8 := hid (Upd.newAdds HN9.out HFR9.out ha8)
          have HF8 := hid (addsFr HFR9.out HN9.out ha8)
          obtain ⟨va8, vn8, vc8, rfl⟩ := Bytes.slice hb8
          clear hb8 ha8 q3 k0 k1
          go_wp2_with fail
          go_roundw
          case rel => exact ⟨1, by go_num, by omega, HBY8.out, HN8.out, HF8.out⟩
          case measure => simp [intOf]
        · obtain rfl : i = 1 := by omega
          go_wp2_with fail
          go_ret
          exact ⟨_, rfl, HBY9.out, New.trans HB5.out.1 HN9.out, fun k hk => Nat.le_trans HB5.out.1.size (HFR9.out k hk)⟩
end Go.Proofs.YtbllpajibhiobaaDoor

namespace Go.Proofs.YtbllpajibhiobaaDoor
open Go.RowKit Go.Proofs.Leb Go.Proofs.Own
set_option maxRecDepth 100000
set_option maxHeartbeats 8000000

theorem right_md : RightQ md2 := by
  refine ⟨by decide, ?_, rfl⟩
  rw [show shapeV md2.p md2.c = (2, 0) from by decide]
  unfold ownQ
  simp [md2]
theorem rightX_md : RightX [md2] := by
  refine ⟨right_md, by decide, fun h => ?_, (by decide : behV [] md2.p md2.c = [])⟩
  exact absurd h.1 (by decide)
theorem wf_md : WfI md2 := by constructor <;> decide
theorem awakeE_any (w : World) (hF : Fms w) : Calls Tryd.prog 17 #[] w (True' w) := by
  go_enter Tryd.func17, Tryd.ntmps17
  go_upto_region 2 with fail
  obtain ⟨w3, hw3⟩ : ∃ w3, ((w.alloc (.cells #[.int .u8 0, .int .u32 210, .int .i64 0, .int .u8 0, .int .u32 0, .int .u32 7, .int .u32 0, .slice none 0 0, .int .i64 0, .string ⟨#[]⟩, .int .u8 0, .slice none 0 0] 93)).alloc (.cells #[.slice (some ⟨w.heap.size, 0, none⟩) 1 1] 50)).alloc (.cells #[.int .i64 1, .int .u8 112, .int .u32 0, .slice none 0 0, .slice (some ⟨w.heap.size + 1, 0, none⟩) 1 1] 58) = w3 := ⟨_, rfl⟩
  have h0 : w3.heap[w.heap.size]? = some (.cells (cells md2 (.slice none 0 0) (.slice none 0 0)) 93) := by rw [← hw3]; exact hp_old (by simp; omega) (hp_old (by simp) (hp_new rfl))
  have h1 : w3.heap[w.heap.size + 1]? = some (.cells #[.slice (some ⟨w.heap.size, 0, none⟩) 1 1] 50) := by rw [← hw3]; exact hp_old (by simp) (hp_new (by simp))
  have h2 : w3.heap[w.heap.size + 1 + 1]? = some (.cells #[.int .i64 1, .int .u8 112, .int .u32 0, .slice none 0 0, .slice (some ⟨w.heap.size + 1, 0, none⟩) 1 1] 58) := by rw [← hw3]; exact hp_new (by simp)
  have hn3 : New w w3 := by rw [← hw3]; exact (((Upd.refl _ _).alloc _).alloc _).alloc _
  have hx : FXP w3 (fun _ => True) (.slice (some ⟨w.heap.size, 0, none⟩) 1 1) [md2] := by
    refine ⟨some ⟨w.heap.size, 0, none⟩, 1, rfl, by decide, (fun h => by cases h), (fun _ _ => trivial), fun _ => ⟨w.heap.size, 0, rfl, fun i hi => ?_⟩⟩
    obtain rfl : i = 0 := by simpa using hi
    exact ⟨(cells md2 (.slice none 0 0) (.slice none 0 0)).toList, rfl, ⟨_, _, rfl, RdM.nil _ _, Rd.nil _, (fun _ _ => trivial), (fun _ _ => trivial)⟩, fun j u hj => by
      rw [Nat.zero_mul, Nat.zero_add]
      exact cellAt h0 j (by rw [← Array.getElem?_toList]; exact hj)⟩
  have hl : RdE 1 (E1 FXP) w3 (fun _ => True) (.slice (some ⟨w.heap.size + 1, 0, none⟩) 1 1) [[md2]] := by
    refine ⟨some ⟨w.heap.size + 1, 0, none⟩, 1, rfl, by decide, (fun h => by cases h), (fun _ _ => trivial), fun _ => ⟨w.heap.size + 1, 0, rfl, fun i hi => ?_⟩⟩
    obtain rfl : i = 0 := by simpa using hi
    exact ⟨[.slice (some ⟨w.heap.size, 0, none⟩) 1 1], rfl, ⟨_, rfl, hx⟩, fun j u hj => by
      match j, hj with
      | 0, hj => simp at hj; subst hj; exact cellAt h1 0 rfl⟩
  have HL := hid hl
  have HN := hid hn3
  have H2 := hid h2
  have HF := hid hF
  have HW := hid hw3
  clear h0 h1 h2 hn3 hx hl hF hw3
  rw [HW.out]
  have HR := hid (fun w' (hn : New w3 w') => pRightE_any (B := fun _ => True) ⟨1, 112, 0, [], [[md2]]⟩ (.slice none 0 0) (.slice (some ⟨w.heap.size + 1, 0, none⟩) 1 1) w' RdE.nil (HL.out.new (E1.ok FXP.ok) hn) ⟨⟨by decide, (fun x h => by cases h)⟩, by decide, (fun x hx => by
    have e : x = [md2] := by simpa using hx
    subst e
    exact ⟨by decide, fun m hm => by
      have e : m = md2 := by simpa using hm
      subst e
      exact ⟨by decide, by decide, by decide⟩⟩)⟩ ⟨(fun x h => by cases h), fun x hx m hm => by
    have e : x = [md2] := by simpa using hx
    subst e
    have e : m = md2 := by simpa using hm
    subst e
    exact wf_md⟩)
  have HP := hid (fun w' (hn : New w w') (h : New w3 w') => putE_md (.slice (some ⟨w.heap.size + 1, 0, none⟩) 1 1) w' (HF.out.new hn) (HL.out.new (E1.ok FXP.ok) h))
  have HQ : Hid (RightE ⟨1, 112, 0, [], [[md2]]⟩) := ⟨by decide, by decide, rfl, fun x hx => by
    have e : x = [md2] := by simpa using hx
    subst e
    exact rightX_md⟩
  simp only at HR
  have z0 : w3.cell? ⟨w.heap.size + 1 + 1, 0, none⟩ = some (.int .i64 1) := cellAt H2.out 0 rfl
  have z1 : w3.cell? ⟨w.heap.size + 1 + 1, 1, none⟩ = some (.int .u8 112) := cellAt H2.out 1 rfl
  have z2 : w3.cell? ⟨w.heap.size + 1 + 1, 2, none⟩ = some (.int .u32 0) := cellAt H2.out 2 rfl
  have z3 : w3.cell? ⟨w.heap.size + 1 + 1, 3, none⟩ = some (.slice none 0 0) := cellAt H2.out 3 rfl
  have z4 : w3.cell? ⟨w.heap.size + 1 + 1, 4, none⟩ = some (.slice (some ⟨w.heap.size + 1, 0, none⟩) 1 1) := cellAt H2.out 4 rfl
  go_wp2_with fail
  refine (HR.out _ (Upd.refl _ _)).mono ?_
  rintro e w4 ⟨b, rfl, hb, hn⟩
  obtain rfl : b = true := hb.2 HQ.out
  have HN4 := hid hn
  have H4 := hid (hp1 H2.out hn)
  clear hb hn z0 z1 z2 z3 z4
  have z0 : w4.cell? ⟨w.heap.size + 1 + 1, 0, none⟩ = some (.int .i64 1) := cellAt H4.out 0 rfl
  have z1 : w4.cell? ⟨w.heap.size + 1 + 1, 1, none⟩ = some (.int .u8 112) := cellAt H4.out 1 rfl
  have z2 : w4.cell? ⟨w.heap.size + 1 + 1, 2, none⟩ = some (.int .u32 0) := cellAt H4.out 2 rfl
  have z3 : w4.cell? ⟨w.heap.size + 1 + 1, 3, none⟩ = some (.slice none 0 0) := cellAt H4.out 3 rfl
  have z4 : w4.cell? ⟨w.heap.size + 1 + 1, 4, none⟩ = some (.slice (some ⟨w.heap.size + 1, 0, none⟩) 1 1) := cellAt H4.out 4 rfl
  go_wp2_with fail
  refine (HP.out _ (New.trans HN.out HN4.out) HN4.out).mono ?_
  rintro e w5 ⟨v', rfl, hb, hn, hf⟩
  have hs := hb.rd.str
  have HN5 := hid (New.trans (New.trans HN.out HN4.out) hn)
  clear hb hn hf z0 z1 z2 z3 z4
  go_wp2_with fail
  go_ret
  exact ⟨rfl, HN5.out⟩
end Go.Proofs.YtbllpajibhiobaaDoor

namespace Go.Proofs.YtbllpajibhiobaaDoor
open Go.RowKit Go.Proofs.Leb Go.Proofs.Own
set_option maxRecDepth 100000

structure Ent where
  i0 : ByteArray
  i1 : ByteArray
  v2 : Value
  v3 : Value
  v4 : Value
  v5 : Value
  v6 : Value
  v7 : Value
  v8 : Value
  v9 : Value
  v10 : Value
  v11 : Value
  v12 : Value
  x0 : ByteArray
  x1 : Value
  x2 : Value
  g : Glb
  lg : Value
  e : Elm
  lo : Value
  le : Value
  d : Dat
  ld : Value
  c : Cod
  ll : Value
  lb : Value
def gC (n : Ent) : Array Value := #[.int .u8 n.g.t, .bool n.g.m, n.lg]
def eC (n : Ent) : Array Value := #[.int .i64 n.e.mo, .int .u8 n.e.ty, .int .u32 n.e.tb, n.lo, n.le]
def dC (n : Ent) : Array Value := #[.bool n.d.a, .int .u32 n.d.me, n.ld, .string n.d.s]
def cC (n : Ent) : Array Value := #[n.ll, n.lb]
def entC (n : Ent) : Array Value := #[.string n.i0, .string n.i1, n.v2, n.v3, n.v4, n.v5, n.v6, n.v7, n.v8, n.v9, n.v10, n.v11, n.v12, .string n.x0, n.x1, n.x2, .int .u8 n.g.t, .bool n.g.m, n.lg,
  .int .i64 n.e.mo, .int .u8 n.e.ty, .int .u32 n.e.tb, n.lo, n.le, .bool n.d.a, .int .u32 n.d.me, n.ld, .string n.d.s, n.ll, n.lb]
/-- its memory -/
structure EntOk (w : World) (n : Ent) : Prop where
  g : RdE 12 ER w (fun _ => True) n.lg n.g.l
  o : RdE 12 ER w (fun _ => True) n.lo n.e.off
  l : RdE 1 (E1 FXR) w (fun _ => True) n.le n.e.l
  d : RdE 12 ER w (fun _ => True) n.ld n.d.off
  u : RdE 2 EU w (fun _ => True) n.ll n.c.ls
  b : RdE 12 ER w (fun _ => True) n.lb n.c.b
theorem EntOk.new {w w' : World} {n : Ent} (h : EntOk w n) (k : New w w') : EntOk w' n := ⟨h.g.new ER.ok k, h.o.new ER.ok k, h.l.new (E1.ok FXR.ok) k, h.d.new ER.ok k, h.u.new EU.ok k, h.b.new ER.ok k⟩
/-- no slice or text is beyond all bounds -/
structure EntSz (n : Ent) : Prop where
  i0 : n.i0.size ≤ 140737488355328
  i1 : n.i1.size ≤ 140737488355328
  x0 : n.x0.size ≤ 140737488355328
  s : n.d.s.size ≤ 140737488355328
  g : n.g.l.length ≤ 140737488355328
  o : n.e.off.length ≤ 140737488355328
  l : n.e.l.length ≤ 140737488355328
  k : ∀ x ∈ n.e.l, x.length ≤ 140737488355328
  d : n.d.off.length ≤ 140737488355328
  u : n.c.ls.length ≤ 140737488355328
  b : n.c.b.length ≤ 140737488355328
def EntFit (n : Ent) : Prop := FitG n.g ∧ FitE n.e ∧ FitD n.d ∧ FitC n.c
/-- a box of it -/
def BxE (w : World) (n : Ent) (w' : World) : Prop := New w w' ∧ w'.heap[w.heap.size]? = some (.cells (entC n) 45)
theorem BxE.mk0 {w : World} {n : Ent} : BxE w n (w.alloc (.cells (entC n) 45)) := ⟨(Upd.refl _ _).alloc _, hp_new rfl⟩
theorem BxE.new {w a b : World} {n : Ent} (h : BxE w n a) (k : New a b) : BxE w n b := ⟨New.trans h.1 k, hp1 h.2 k⟩
theorem BxE.at {w a : World} {n : Ent} (h : BxE w n a) (i : Nat) {v : Value} (hv : (entC n)[i]? = some v) : a.cell? ⟨w.heap.size, i, none⟩ = some v := cellAt h.2 i hv
theorem BxE.cs {w a : World} {n : Ent} (h : BxE w n a) : a.cell? ⟨w.heap.size, 18, none⟩ = some n.lg ∧ a.cell? ⟨w.heap.size, 22, none⟩ = some n.lo ∧ a.cell? ⟨w.heap.size, 23, none⟩ = some n.le ∧ a.cell? ⟨w.heap.size, 26, none⟩ = some n.ld ∧ a.cell? ⟨w.heap.size, 27, none⟩ = some (.string n.d.s) ∧
    a.cell? ⟨w.heap.size, 28, none⟩ = some n.ll ∧ a.cell? ⟨w.heap.size, 29, none⟩ = some n.lb ∧ a.cell? ⟨w.heap.size, 0, none⟩ = some (.string n.i0) ∧ a.cell? ⟨w.heap.size, 1, none⟩ = some (.string n.i1) ∧ a.cell? ⟨w.heap.size, 13, none⟩ = some (.string n.x0) :=
  ⟨h.at 18 rfl, h.at 22 rfl, h.at 23 rfl, h.at 26 rfl, h.at 27 rfl, h.at 28 rfl, h.at 29 rfl, h.at 0 rfl, h.at 1 rfl, h.at 13 rfl⟩
end Go.Proofs.YtbllpajibhiobaaDoor
