/-
  The walks of ops: the map that is made anew, its entries laid in whatever order.
-/
import Derived.Test.YtnngibflnnmioaaOpP
import Derived.Test.YtnngibflnnmioaaFrm
import Derived.Maps.Keyed
import Derived.DeepKeys5
import Derived.MapViews
import Derived.Lib.SmallJoins
namespace Go.Proofs.Ytnngibflnnmioaa
open Go.RowKit Go.Proofs.Own
open Go.Maps (Keyed)
open Go.ChangeMaps (setBlock)
set_option maxRecDepth 100000
set_option maxHeartbeats 2000000

theorem opLaid : laidOutB Try.prog = true := by kernel_rfl
theorem opKeyed : Keyed Try.prog 28 := Keyed.of_law (deep_law_gate opLaid (of_decide_eq_true (by kernel_rfl)) (of_decide_eq_true (by kernel_rfl)) (by kernel_rfl) (by kernel_rfl))

/-- a key -/
def ky (p c : Int) : Value := .agg #[.int .u8 p, .int .u32 c]
theorem wfu8 {p : Int} (h0 : 0 ≤ p) (h1 : p < 256) : (Lit.int .u8 p).wf = true := by
  have e1 : IntKind.u8.min = 0 := by decide
  have e2 : IntKind.u8.max = 255 := by decide
  simp only [Lit.wf, e1, e2, Bool.and_eq_true, decide_eq_true_eq]
  omega
theorem wfu32 {p : Int} (h0 : 0 ≤ p) (h1 : p < 4294967296) : (Lit.int .u32 p).wf = true := by
  have e1 : IntKind.u32.min = 0 := by decide
  have e2 : IntKind.u32.max = 4294967295 := by decide
  simp only [Lit.wf, e1, e2, Bool.and_eq_true, decide_eq_true_eq]
  omega
theorem ky_lit (w : World) (p c : Int) (p0 : 0 ≤ p) (p1 : p < 256) (c0 : 0 ≤ c) (c1 : c < 4294967296) : ∃ l, keyOf Try.prog 28 (ky p c) = some l := by
  have h0 := Go.Joins.field_of_Trod (Go.ChangeShapes.shut_int (enc := fun _ : TypeId × Value => ()) (w := w) (base := 0) (spare := fun _ => true) (held := true) Try.underlying5 (wfu8 p0 p1)) rfl
  have h1 := Go.Joins.field_of_Trod (Go.ChangeShapes.shut_int (enc := fun _ : TypeId × Value => ()) (w := w) (base := 0) (spare := fun _ => true) (held := true) Try.underlying22 (wfu32 c0 c1)) rfl
  have h2 := Go.Joins.shut_agg2 Try.underlying28 (by kernel_rfl) (by kernel_rfl) h0 h1
  exact ⟨_, (keyOf_asKey (by kernel_rfl) (by kernel_rfl) (by
    unfold Value.formed
    rw [Try.underlying28]
    exact beq_iff_eq.mpr (by kernel_rfl)) h2).1⟩

/-! ### the entries -/
def tab : List (Int × Int × Int) := [(0, 14, 4), (0, 28, 18), (0, 208, 17), (252, 8, 8), (252, 10, 7), (253, 12, 13), (253, 13, 14)]
def tp (q : Nat) : Int := (tab.getD q (0, 0, 0)).1
def tc (q : Nat) : Int := (tab.getD q (0, 0, 0)).2.1
def tv (q : Nat) : Int := (tab.getD q (0, 0, 0)).2.2
theorem tab_bd : ∀ q : Fin 7, 0 ≤ tp q ∧ tp q < 256 ∧ 0 ≤ tc q ∧ tc q < 4294967296 := by decide
theorem tab_inj : ∀ i j : Fin 7, tp i = tp j → tc i = tc j → i = j := by decide
theorem ky_inj {p c p' c' : Int} (h : ky p c = ky p' c') : p = p' ∧ c = c' := by
  unfold ky at h
  simp at h
  exact h

/-- block g is a map whose entries are those of the table that qs names -/
def MapIn (w : World) (g : Nat) (qs : Nat → Bool) : Prop :=
  ∃ es clock, w.heap[g]? = some (.map es clock) ∧ (∀ e ∈ es.toList, ∃ q, q < 7 ∧ qs q = true ∧ e.key = ky (tp q) (tc q) ∧ e.val = .int .i64 (tv q)) ∧
    ∀ q, q < 7 → qs q = true → ∃ e ∈ es.toList, e.key = ky (tp q) (tc q)
theorem MapIn.new {w w' : World} {g : Nat} {qs : Nat → Bool} (h : MapIn w g qs) (hn : New w w') : MapIn w' g qs := by
  obtain ⟨es, clock, hb, h1, h2⟩ := h
  exact ⟨es, clock, (hn.block g (Array.getElem?_eq_some_iff.1 hb).1 (fun h => h)).trans hb, h1, h2⟩
theorem MapIn.made (w : World) : MapIn (w.alloc (.map #[] 0)) w.heap.size (fun _ => false) :=
  ⟨#[], 0, hp_new rfl, (fun e h => by simp at h), fun q _ h => by cases h⟩
theorem MapIn.congr {w : World} {g : Nat} {p q : Nat → Bool} (h : MapIn w g p) (e : ∀ j, j < 7 → p j = q j) : MapIn w g q := by
  obtain ⟨es, clock, hb, h1, h2⟩ := h
  refine ⟨es, clock, hb, fun x hx => ?_, fun j hj hq => h2 j hj (by rw [e j hj]; exact hq)⟩
  obtain ⟨j, hj, hp, r⟩ := h1 x hx
  exact ⟨j, hj, by rw [← e j hj]; exact hp, r⟩

theorem setBlock_heap {w : World} {g : Nat} {o x : Obj} (hb : w.heap[g]? = some o) : (setBlock w g x).heap[g]? = some x := by
  have := (Array.getElem?_eq_some_iff.1 hb).1
  simp [setBlock, this]
theorem setBlock_upd (w : World) (g : Nat) (x : Obj) : Upd (fun k => k = g) w (setBlock w g x) :=
  ⟨rfl, rfl, rfl, by simp [setBlock], fun k _ hn => by simp [setBlock, Ne.symm hn]⟩

theorem insert_run {w : World} {g : Nat} {qs : Nat → Bool} (h : MapIn w g qs) {q : Nat} (hq : q < 7) (hn : qs q = false) :
    ∃ w', (Instr.mapUpdate 110 (.map (some g)) (ky (tp q) (tc q)) (.int .i64 (tv q))).run Try.prog w = .ok () w' ∧ MapIn w' g (fun j => qs j || j == q) ∧ Upd (fun k => k = g) w w' := by
  obtain ⟨es, clock, hb, h1, h2⟩ := h
  have bd := tab_bd ⟨q, hq⟩
  obtain ⟨l, hl⟩ := ky_lit w (tp q) (tc q) bd.1 bd.2.1 bd.2.2.1 bd.2.2.2
  have hkeys : ∀ e ∈ es.toList, ∃ l, keyOf Try.prog 28 e.key = some l := fun e he => by
    obtain ⟨j, hj, _, hk, _⟩ := h1 e he
    have bd := tab_bd ⟨j, hj⟩
    rw [hk]
    exact ky_lit w (tp j) (tc j) bd.1 bd.2.1 bd.2.2.1 bd.2.2.2
  rcases opKeyed.find w hl es.toList hkeys with ⟨f1, f2⟩ | ⟨j, e0, _, f2, f3⟩
  · refine ⟨setBlock w g (.map (es.push ⟨ky (tp q) (tc q), .int .i64 (tv q), clock⟩) (clock + 1)), ?_, ⟨_, _, setBlock_heap hb, ?_, ?_⟩, setBlock_upd _ _ _⟩
    · simp [Instr.mapUpdate, run_underlying Try.underlying110, MapKept.run_getObj_map hb, opKeyed.check w false hl, f1, MapKept.run_setObj_map _ hb, Result.andThen, setBlock]
    · intro e he
      simp only [Array.toList_push, List.mem_append, List.mem_singleton] at he
      rcases he with he | rfl
      · obtain ⟨j, hj, hs, r⟩ := h1 e he
        exact ⟨j, hj, by show (qs j || j == q) = true; rw [hs]; rfl, r⟩
      · exact ⟨q, hq, by simp, rfl, rfl⟩
    · intro j hj hs
      simp only [Bool.or_eq_true, beq_iff_eq] at hs
      rcases hs with hs | rfl
      · obtain ⟨e, he, hk⟩ := h2 j hj hs
        exact ⟨e, by simp [he], hk⟩
      · exact ⟨⟨ky (tp j) (tc j), .int .i64 (tv j), clock⟩, by simp, rfl⟩
  · obtain ⟨i, hi, hs, hk, _⟩ := h1 e0 (List.mem_of_getElem? f2)
    obtain ⟨e1, e2⟩ := ky_inj (hk.symm.trans f3)
    have : i = q := congrArg Fin.val (tab_inj ⟨i, hi⟩ ⟨q, hq⟩ e1 e2)
    subst this
    rw [hs] at hn
    cases hn

/-! ### in whatever order -/
/-- what has come up when the entries of m are laid -/
def L (m : Nat) : Array Bool := Array.ofFn (n := 17) fun i => if i.val % 2 = 0 ∧ 2 ≤ i.val ∧ i.val ≤ 14 then m.testBit (i.val / 2 - 1) else decide (i.val < 15)
def rest (m : Nat) : List Nat := (List.range 7).filter fun q => !m.testBit q
theorem L_set : ∀ m : Fin 128, ∀ q : Fin 7, m.val.testBit q.val = false → (L m.val).setIfInBounds (2 + 2 * q.val) true = L (m.val ||| 2 ^ q.val) := by decide +kernel
theorem rest_set : ∀ m : Fin 128, ∀ q : Fin 7, m.val.testBit q.val = false → (rest (m.val ||| 2 ^ q.val)).length + 1 = (rest m.val).length ∧ m.val ||| 2 ^ q.val < 128 := by decide +kernel
theorem bit_set : ∀ m : Fin 128, ∀ q : Fin 7, ∀ j : Fin 7, (m.val ||| 2 ^ q.val).testBit j.val = (m.val.testBit j.val || j.val == q.val) := by decide +kernel
theorem rest_nil : ∀ m : Fin 128, (rest m.val).length = 0 → m.val = 127 := by decide +kernel
theorem bits_all : ∀ j : Fin 7, (127 : Nat).testBit j.val = true := by decide

theorem step_insert {P : Program} {ops : Array Oper} {o : Oper} {a : Act} {w w' : World} {K : Act → World → Prop} {Q : Exit → Act → World → Prop} {E : Prop} {t : TypeId} {m x v : Operand} {g : Nat} {key val : Value}
    (hw : Region.wanted o (yielded ops a.tmps) = true) (hop : o.op = Op.insert t m x v) (hd : o.dst = none) (hm : a.eval m = .map (some g)) (hx : a.eval x = key) (hv : a.eval v = val)
    (hrun : (Instr.mapUpdate t (.map (some g)) key val).run P w = .ok () w') (h : K a w') : if Region.wanted o (yielded ops a.tmps) = true then Oper.wp P o a w K Q else E := by
  rw [if_pos hw]
  unfold Oper.wp
  simp [execOp, hop, hm, hx, hv, hrun, Result.andThen, Oper.upon, hd, Act.put]
  exact h

theorem inserts {ops : Array Oper} {Q : Exit → Act → World → Prop} {S : World → Prop} {a : Act} {g : Nat}
    (hop : ∀ q : Fin 7, ∃ o, ops[2 + 2 * q.val]? = some o ∧ o.guard = none ∧ o.dst = none ∧ o.op = Op.insert 110 (.tmp 1) (.tmp (2 + q.val)) (.const (.int .i64 (tv q.val))))
    (hm : a.eval (.tmp 1) = .map (some g)) (hx : ∀ q : Fin 7, a.eval (.tmp (2 + q.val)) = ky (tp q.val) (tc q.val))
    (hA : ∀ m : Fin 128, m.val ≠ 127 → Region.ready .any ops (L m.val) = (rest m.val).map fun q => 2 + 2 * q)
    (hS : ∀ w w', S w → Upd (fun k => k = g) w w' → S w')
    (hQ : ∀ w, MapIn w g (fun _ => true) → S w → wpAnyH Try.prog .any ops Q S 2 (L 127) a w) :
    ∀ r m, m < 128 → (rest m).length = r → ∀ w, MapIn w g m.testBit → S w → wpAnyH Try.prog .any ops Q S (r + 2) (L m) a w
  | 0, m, hm1, hr, w, hin, hs => by
    obtain rfl : m = 127 := rest_nil ⟨m, hm1⟩ hr
    exact hQ w (hin.congr fun j hj => bits_all ⟨j, hj⟩) hs
  | r + 1, m, hm1, hr, w, hin, hs => by
    have hne : m ≠ 127 := fun e => by
      subst e
      have : (rest 127).length = 0 := by decide
      omega
    have hA1 := hA ⟨m, hm1⟩ hne
    refine wpAnyH_ready (rs := (rest m).map fun q => 2 + 2 * q) hA1 (fun e => ?_) ?_
    · have := congrArg List.length e
      simp at this
      rw [this] at hr
      simp at hr
    · intro i hi
      obtain ⟨q, hq, rfl⟩ := List.mem_map.mp hi
      unfold rest at hq
      simp only [List.mem_filter, List.mem_range, Bool.not_eq_true'] at hq
      obtain ⟨q7, hbit⟩ := hq
      obtain ⟨o, ho, hg, hd, hop1⟩ := hop ⟨q, q7⟩
      obtain ⟨w', hrun, hin', hu⟩ := insert_run hin q7 hbit
      refine wpOp_step ho fun K' hK => ?_
      refine step_insert (by unfold Region.wanted; rw [hg]) hop1 hd hm (hx ⟨q, q7⟩) rfl hrun (hK _ _ ⟨hS _ _ hs hu, ?_⟩)
      rw [L_set ⟨m, hm1⟩ ⟨q, q7⟩ hbit]
      obtain ⟨e1, e2⟩ := rest_set ⟨m, hm1⟩ ⟨q, q7⟩ hbit
      exact inserts hop hm hx hA hS hQ r _ e2 (Nat.add_right_cancel (e1.trans hr)) w' (hin'.congr fun j hj => (bit_set ⟨m, hm1⟩ ⟨q, q7⟩ ⟨j, hj⟩).symm) (hS _ _ hs hu)

/-- what the map answers -/
def al (p c : Int) : Int × Bool :=
  if p = 0 ∧ c = 14 then (4, true) else if p = 0 ∧ c = 28 then (18, true) else if p = 0 ∧ c = 208 then (17, true)
  else if p = 252 ∧ c = 8 then (8, true) else if p = 252 ∧ c = 10 then (7, true) else if p = 253 ∧ c = 12 then (13, true) else if p = 253 ∧ c = 13 then (14, true) else (0, false)
theorem al_tab : ∀ q : Fin 7, al (tp q) (tc q) = (tv q, true) := by decide
theorem al_none {p c : Int} (h : ∀ q : Fin 7, ¬ (tp q = p ∧ tc q = c)) : al p c = (0, false) := by
  have h0 : ¬ ((0 : Int) = p ∧ (14 : Int) = c) := h 0
  have h1 : ¬ ((0 : Int) = p ∧ (28 : Int) = c) := h 1
  have h2 : ¬ ((0 : Int) = p ∧ (208 : Int) = c) := h 2
  have h3 : ¬ ((252 : Int) = p ∧ (8 : Int) = c) := h 3
  have h4 : ¬ ((252 : Int) = p ∧ (10 : Int) = c) := h 4
  have h5 : ¬ ((253 : Int) = p ∧ (12 : Int) = c) := h 5
  have h6 : ¬ ((253 : Int) = p ∧ (13 : Int) = c) := h 6
  unfold al
  repeat (first | rw [if_neg (by omega)])

theorem look_run {w : World} {g : Nat} (h : MapIn w g (fun _ => true)) (p c : Int) (p0 : 0 ≤ p) (p1 : p < 256) (c0 : 0 ≤ c) (c1 : c < 4294967296) :
    (Instr.lookup 110 (.map (some g)) (ky p c) true).run Try.prog w = .ok (.tuple #[.int .i64 (al p c).1, .bool (al p c).2]) w := by
  obtain ⟨es, clock, hb, h1, h2⟩ := h
  obtain ⟨l, hl⟩ := ky_lit w p c p0 p1 c0 c1
  have hkeys : ∀ e ∈ es.toList, ∃ l, keyOf Try.prog 28 e.key = some l := fun e he => by
    obtain ⟨j, hj, _, hk, _⟩ := h1 e he
    have bd := tab_bd ⟨j, hj⟩
    rw [hk]
    exact ky_lit w (tp j) (tc j) bd.1 bd.2.1 bd.2.2.1 bd.2.2.2
  have hz : (zeroValue 3).run Try.prog w = .ok (.int .i64 0) w := by kernel_rfl
  rcases opKeyed.find w hl es.toList hkeys with ⟨f1, f2⟩ | ⟨j, e0, f1, f2, f3⟩
  · have : al p c = (0, false) := al_none fun q ⟨e1, e2⟩ => by
      obtain ⟨e, he, hk⟩ := h2 q.val q.isLt rfl
      exact f2 e he (by rw [hk, e1, e2])
    rw [this]
    simp [Instr.lookup, run_underlying Try.underlying110, MapKept.run_getObj_map hb, opKeyed.check w _ hl, f1, hz, Result.andThen]
  · obtain ⟨i, hi, _, hk, hv⟩ := h1 e0 (List.mem_of_getElem? f2)
    obtain ⟨e1, e2⟩ := ky_inj (hk.symm.trans f3)
    have : al p c = (tv i, true) := by rw [← e1, ← e2]; exact al_tab ⟨i, hi⟩
    rw [this]
    simp [Instr.lookup, run_underlying Try.underlying110, MapKept.run_getObj_map hb, opKeyed.check w _ hl, f1, hv, Result.andThen]
end Go.Proofs.Ytnngibflnnmioaa
