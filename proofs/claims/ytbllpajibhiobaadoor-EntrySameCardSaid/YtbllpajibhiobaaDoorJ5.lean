/-
  A cut in the middle of a region that draws no order.
-/
import Derived.Test.YtbllpajibhiobaaDoorJ0
import Derived.Deep.DeepCutAuto
import Derived.Test.YtbllpajibhiobaaDoorJ4
import Derived.Test.YtbllpajibhiobaaDoorJ1
import Derived.Test.YtbllpajibhiobaaDoorJ3
namespace Go.Proofs.YtbllpajibhiobaaDoor
open Go.RowKit Go.Proofs.Own

section
variable {P : Program} {ops : Array Oper} {Q : Exit → Act → World → Prop}
theorem letsOut_then {R : Act → World → Prop} (h : LetsOut (Exit.then R Q)) : LetsOut Q := h
theorem wp_other {R : Act → World → Prop} {o : Oper} {a : Act} {w : World} {K K' : Act → World → Prop} (h : ∀ a w, K a w → K' a w)
    (hh : o.wp P a w K (Exit.then R Q)) : o.wp P a w K' Q := by
  unfold Oper.wp at *
  generalize (execOp a.eval o).run P w = r at *
  cases r with
  | ok n w' =>
    cases n with
    | value v => exact h _ _ hh
    | skip => exact h _ _ hh
    | defer d => exact h _ _ hh
    | enter f args =>
      refine Calls.mono hh ?_
      intro e w'' he
      cases e with
      | returned v => exact h _ _ he
      | panicked c => exact he
      | outgrown => exact letsOut_then he
    | row row args => exact Rows.mono hh (fun v w'' hv => h _ _ hv)
    | _ => exact hh
  | halt x w' =>
    cases x with
    | panic v => exact hh
    | _ => exact hh
theorem wpList_then {R : Act → World → Prop} {l2 : List Oper} (h2 : ∀ a w, R a w → wpList P ops Q l2 a w) :
    ∀ (l1 : List Oper) (a : Act) (w : World), wpList P ops (Exit.then R Q) l1 a w → wpList P ops Q (l1 ++ l2) a w := by
  intro l1
  induction l1 with
  | nil => intro a w h; exact h2 a w h
  | cons o r ih =>
    intro a w h
    rw [List.cons_append]
    unfold wpList at h ⊢
    split
    · rename_i hw
      rw [if_pos hw] at h
      rcases h with h | ⟨h, h'⟩
      · exact .inl (wp_other ih h)
      · exact .inr ⟨h, letsOut_then h'⟩
    · rename_i hw
      rw [if_neg hw] at h
      exact ih _ _ h

/-- several slots put -/
def puts (a : Act) (l : List (Nat × Value)) : Act := l.foldl (fun a x => a.put (some x.1) x.2) a
theorem wpList_cutK (k : Nat) (R : Act → Act → World → Prop) {l : List Oper} {a : Act} {w : World}
    (h1 : ∀ J : Act → World → Prop, Hid (∀ a' w', R a a' w' → J a' w') → wpList P ops (Exit.then J Q) (l.take k) a w) (h2 : ∀ a' w', R a a' w' → wpList P ops Q (l.drop k) a' w') : wpList P ops Q l a w := by
  have := wpList_then h2 (l.take k) a w (h1 (R a) (fun _ _ h => h))
  rwa [List.take_append_drop] at this
end
end Go.Proofs.YtbllpajibhiobaaDoor

namespace Go.Proofs.YtbllpajibhiobaaDoor
open Go.RowKit Go.Proofs.Leb Go.Proofs.Own
set_option maxRecDepth 100000
set_option maxHeartbeats 16000000

def cellsR (m : Ins) (l : Value) : Array Value := #[.int .u8 m.p, .int .u32 m.c, .int .i64 m.k, .int .u8 m.t, .int .u32 m.i, .int .u32 m.x, .int .u32 m.y, l, .int .i64 m.n, .string m.raw, .int .u8 m.lane, .string m.ty]
def BoxR (w : World) (g : Nat) (m : Ins) (l : Value) : Prop := w.heap[g]? = some (.cells (cellsR m l) 98)
/-- what stands in an instruction that its op has not: numbers -/
def C1 (s : Int) (m : Ins) : Prop :=
  (m.x ≠ 0 ∧ ¬ (s = 2 ∨ s = 3 ∨ s = 4 ∨ s = 5 ∨ s = 8 ∨ s = 16)) ∨ (m.y ≠ 0 ∧ ¬ (s = 3 ∨ s = 5 ∨ s = 16)) ∨ (0 < m.li.length ∧ s ≠ 4) ∨ (m.n ≠ 0 ∧ s ≠ 9 ∧ s ≠ 10) ∨ (m.lane ≠ 0 ∧ s ≠ 15 ∧ s ≠ 16)
/-- texts, and what a block is like -/
def C2 (s : Int) (m : Ins) : Prop :=
  (0 < m.raw.size ∧ ¬ (s = 11 ∨ s = 12 ∨ s = 13 ∨ s = 14)) ∨ (0 < m.ty.size ∧ s ≠ 17 ∧ s ≠ 18) ∨ ((m.k ≠ 0 ∨ m.t ≠ 0 ∨ m.i ≠ 0) ∧ s ≠ 1)
def inX (s : Int) : Bool := [2, 3, 4, 5, 8, 16].any fun n : Nat => decide ((n : Int) = s)
def inY (s : Int) : Bool := [3, 5, 16].any fun n : Nat => decide ((n : Int) = s)
def inR (s : Int) : Bool := [11, 12, 13, 14].any fun n : Nat => decide ((n : Int) = s)
theorem inX_iff (s : Int) : inX s = true ↔ (s = 2 ∨ s = 3 ∨ s = 4 ∨ s = 5 ∨ s = 8 ∨ s = 16) := by
  unfold inX
  simp only [List.any_cons, List.any_nil, Bool.or_false, Bool.or_eq_true, decide_eq_true_eq]
  omega
theorem inY_iff (s : Int) : inY s = true ↔ (s = 3 ∨ s = 5 ∨ s = 16) := by
  unfold inY
  simp only [List.any_cons, List.any_nil, Bool.or_false, Bool.or_eq_true, decide_eq_true_eq]
  omega
theorem inR_iff (s : Int) : inR s = true ↔ (s = 11 ∨ s = 12 ∨ s = 13 ∨ s = 14) := by
  unfold inR
  simp only [List.any_cons, List.any_nil, Bool.or_false, Bool.or_eq_true, decide_eq_true_eq]
  omega

theorem sz0 {s : ByteArray} (h : s.size = 0) : s = ⟨#[]⟩ := ByteArray.ext (Array.eq_empty_of_size_eq_zero h)
theorem tl_size {s : ByteArray} (h : s.toList = []) : s.size = 0 := by
  rw [ByteArray.toList_eq] at h
  have := congrArg List.length h
  simpa using this
theorem tl_pos {s : ByteArray} (h : ¬ s.toList = []) : 0 < s.size := by
  refine Nat.pos_of_ne_zero fun e => h ?_
  rw [ByteArray.toList_eq, sz0 e]
theorem isE {α : Type} {l : List α} (h : ¬ l = []) : l.isEmpty = false := by
  cases l with
  | nil => exact absurd rfl h
  | cons _ _ => rfl
theorem c1_not {s : Int} {m : Ins} (h : C1 s m) : zap s m ≠ zeroI m.p m.c := by
  intro e
  have hx := congrArg Ins.x e
  have hy := congrArg Ins.y e
  have hl := congrArg Ins.li e
  have hn := congrArg Ins.n e
  have he := congrArg Ins.lane e
  simp only [zap, zeroI] at hx hy hl hn he
  have hl2 : (if s = 4 then ([] : List Nat) else m.li).length = 0 := by rw [hl]; rfl
  unfold C1 at h
  rcases h with ⟨h, k⟩ | ⟨h, k⟩ | ⟨h, k⟩ | ⟨h, k1, k2⟩ | ⟨h, k1, k2⟩
  · rw [if_neg k] at hx; exact h hx
  · rw [if_neg k] at hy; exact h hy
  · rw [if_neg k] at hl2; omega
  · rw [if_neg (by omega)] at hn; exact h hn
  · rw [if_neg (by omega)] at he; exact h he
theorem c2_not {s : Int} {m : Ins} (h : C2 s m) : zap s m ≠ zeroI m.p m.c := by
  intro e
  have hk := congrArg Ins.k e
  have ht := congrArg Ins.t e
  have hi := congrArg Ins.i e
  have hr := congrArg Ins.raw e
  have hy := congrArg Ins.ty e
  simp only [zap, zeroI] at hk ht hi hr hy
  unfold C2 at h
  rcases h with ⟨h, k⟩ | ⟨h, k1, k2⟩ | ⟨h, k⟩
  · rw [if_neg k] at hr; rw [hr] at h; exact absurd h (by decide)
  · rw [if_neg (by omega)] at hy; rw [hy] at h; exact absurd h (by decide)
  · rw [if_neg k] at hk ht hi
    rcases h with h | h | h
    · exact h hk
    · exact h ht
    · exact h hi
theorem c_zap {s : Int} {m : Ins} (h1 : ¬ C1 s m) (h2 : ¬ C2 s m) : zap s m = zeroI m.p m.c := by
  unfold C1 at h1
  unfold C2 at h2
  simp only [not_or, not_and, Decidable.not_not] at h1 h2
  obtain ⟨a1, a2, a3, a4, a5⟩ := h1
  obtain ⟨b1, b2, b3⟩ := h2
  have e1 : (if s = 1 then 0 else m.k) = 0 := by split; rfl; rename_i h; exact Decidable.byContradiction fun hc => h (b3 (.inl hc))
  have e2 : (if s = 1 then 0 else m.t) = 0 := by split; rfl; rename_i h; exact Decidable.byContradiction fun hc => h (b3 (.inr (.inl hc)))
  have e3 : (if s = 1 then 0 else m.i) = 0 := by split; rfl; rename_i h; exact Decidable.byContradiction fun hc => h (b3 (.inr (.inr hc)))
  have e4 : (if s = 2 ∨ s = 3 ∨ s = 4 ∨ s = 5 ∨ s = 8 ∨ s = 16 then 0 else m.x) = 0 := by split; rfl; rename_i h; exact Decidable.byContradiction fun hc => by have := a1 hc; omega
  have e5 : (if s = 3 ∨ s = 5 ∨ s = 16 then 0 else m.y) = 0 := by split; rfl; rename_i h; exact Decidable.byContradiction fun hc => by have := a2 hc; omega
  have e6 : (if s = 4 then [] else m.li) = [] := by
    split
    · rfl
    · rename_i h
      exact List.eq_nil_of_length_eq_zero (by have := fun hc => h (a3 hc); omega)
  have e7 : (if s = 9 ∨ s = 10 then 0 else m.n) = 0 := by split; rfl; rename_i h; exact Decidable.byContradiction fun hc => by have := a4 hc; omega
  have e8 : (if s = 11 ∨ s = 12 ∨ s = 13 ∨ s = 14 then (⟨#[]⟩ : ByteArray) else m.raw) = ⟨#[]⟩ := by split; rfl; rename_i h; exact sz0 (Nat.eq_zero_of_not_pos fun hc => by have := b1 hc; omega)
  have e9 : (if s = 15 ∨ s = 16 then 0 else m.lane) = 0 := by split; rfl; rename_i h; exact Decidable.byContradiction fun hc => by have := a5 hc; omega
  have e10 : (if s = 17 ∨ s = 18 then (⟨#[]⟩ : ByteArray) else m.ty) = ⟨#[]⟩ := by split; rfl; rename_i h; exact sz0 (Nat.eq_zero_of_not_pos fun hc => by have := b2 hc; omega)
  unfold zap zeroI
  rw [e1, e2, e3, e4, e5, e6, e7, e8, e9, e10]
end Go.Proofs.YtbllpajibhiobaaDoor

namespace Go.Proofs.YtbllpajibhiobaaDoor
open Go.RowKit Go.Proofs.Own
set_option maxRecDepth 100000
set_option maxHeartbeats 2000000

theorem infoN : (Tryd.prog.info? 22).map (fun i => (i.zero, i.size, i.bytes)) = some (some (.int .u32 0), 1, 4) := by kernel_rfl
def cn (n : Nat) : Value := .int .u32 (n : Nat)
/-- a row of numbers that the call owns -/
def NRow (w : World) (v : Value) (ns : List Nat) : Prop := w.ownsRow 0 22 1 v ns.length (ns.map cn)
theorem NRow.rd {w : World} {v : Value} {ns : List Nat} (h : NRow w v ns) : RdM .u32 w v ns := by
  obtain ⟨h1, h2⟩ := h
  rcases h2 with ⟨rfl, hn⟩ | ⟨g, cap, cur, rfl, _, hg, hn, hm, hs, ht⟩
  · have : ns = [] := List.eq_nil_of_length_eq_zero hn
    subst this
    exact RdM.nil _ w
  · refine ⟨_, cap, rfl, hn, (fun h => by cases h), fun _ => ⟨g, 0, rfl, fun i hi => ?_⟩⟩
    have hown : w.ownsRow 0 22 1 (.slice (some ⟨g, 0, none⟩) ns.length cap) ns.length (ns.map cn) := ⟨h1, .inr ⟨g, cap, cur, rfl, Nat.zero_le _, hg, hn, hm, hs, ht⟩⟩
    have := hown.cells (g := g) rfl i (cn ns[i]) (by simp [hi])
    rwa [Addr.add_lit] at this
theorem NRow.lt {w : World} {v : Value} {ns : List Nat} (h : NRow w v ns) : ∀ k, v.ownBlock = some k → k < w.heap.size := fun k hk => (World.ownsRow.lt h k hk).2
theorem NRow.made (w : World) : NRow (w.alloc (.cells #[] 22)) (.slice (some ⟨w.heap.size, 0, none⟩) 0 0) [] :=
  World.ownsRow_made w #[] 0 (Nat.zero_le _) (Nat.zero_le _) rfl
theorem NRow.new {w w' : World} {v : Value} {ns : List Nat} (h : NRow w v ns) (hu : New w w') : NRow w' v ns := ownsRow_new h hu
/-- append of numbers: the run -/
theorem runN {w : World} {sv v : Value} {ds ns : List Nat} (ty : TypeId)
    (hb : NRow w sv ds) (hr : RdM .u32 w v ns) (hl : ds.length + ns.length ≤ 1000000000) :
    ∃ v' w', (Builtin.append_ #[90, 90] ty #[sv, v]).run Tryd.prog w = .ok v' w' ∧ NRow w' v' (ds ++ ns) ∧ Adds w w' sv v' := by
  obtain ⟨ao, cap, rfl, h1, h2, h3⟩ := hr
  obtain ⟨i, hi, hz, hsz, hby⟩ := info_parts infoN
  cases ao with
  | none =>
    have hc := h2 rfl
    subst hc
    have : ns = [] := List.eq_nil_of_length_eq_zero (by omega)
    subst this
    have hr := run_append_owned_none (P := Tryd.prog) w 0 90 ty 22 i 1 Tryd.underlying90 hi sv ds.length (ds.map cn) hb
    exact ⟨sv, w, hr, by simpa using hb, Adds.refl w sv⟩
  | some ad =>
    have hnews : ∀ j u, (ns.map cn)[j]? = some u → w.cell? (ad.add j) = some u := by
      intro j u hj
      have hlt : j < ns.length := by
        have := (List.getElem?_eq_some_iff.1 hj).1
        simpa using this
      obtain ⟨b, o', e, hc⟩ := h3 (by intro e; subst e; simp at hlt)
      cases e
      have hu : u = cn ns[j] := by
        simp only [List.getElem?_map, List.getElem?_eq_getElem hlt, Option.map_some, Option.some.injEq] at hj
        exact hj.symm
      subst hu
      rw [Addr.add_lit]
      exact hc j hlt
    have hone : ∀ u ∈ ns.map cn, u.oneCell' = true := by
      intro u hu
      simp only [List.mem_map] at hu
      obtain ⟨x, _, rfl⟩ := hu
      rfl
    obtain ⟨v', w', hr, ho, ha⟩ := run_append_adds (P := Tryd.prog) w 90 ty 22 i (.int .u32 0) 1 4 Tryd.underlying90 hi hz hsz hby rfl (by decide) 0 sv ds.length (ds.map cn) hb
      ad ns.length cap (ns.map cn) (by simp) hnews hone (by unfold maxLen; omega) (by omega) (Nat.zero_le _)
    refine ⟨v', w', hr, ?_, ha⟩
    unfold NRow
    rw [List.length_append, List.map_append]
    exact ho
/-- append of numbers, as one step of a region that draws its order -/
theorem stepN {ops : Array Oper} {o : Oper} {a : Act} {w : World} {K : Act → World → Prop} {Q : Exit → Act → World → Prop} {E : Prop} (s x : Operand) {sv v : Value} {ds ns : List Nat}
    (hb : NRow w sv ds) (hr : RdM .u32 w v ns) (hl : ds.length + ns.length ≤ 1000000000) (hw : Region.wanted o (yielded ops a.tmps) = true)
    (ho : o.op = .call { callee := .builtin .append, args := #[s, x], argTypes := #[90, 90] }) (hs : a.eval s = sv) (hx : a.eval x = v)
    (h : ∀ v' w', NRow w' v' (ds ++ ns) → Adds w w' sv v' → K (a.put o.dst v') w') :
    if Region.wanted o (yielded ops a.tmps) = true then Oper.wp Tryd.prog o a w K Q else E := by
  obtain ⟨v', w', hr, ho', ha⟩ := runN o.type hb hr hl
  rw [if_pos hw]
  unfold Oper.wp execOp
  simp only [ho, resolve, invoke, builtin, Sem.run_bind, Sem.run_pure, Result.andThen_ok, List.map_toArray, List.map_cons, List.map_nil, hs, hx, hr]
  exact h v' w' ho' ha
end Go.Proofs.YtbllpajibhiobaaDoor

namespace Go.Proofs.YtbllpajibhiobaaDoor
open Go.RowKit Go.Proofs.Leb Go.Proofs.Own
set_option maxRecDepth 100000
set_option maxHeartbeats 8000000

def OwnP (m : Ins) (w : World) (e : Ending) (w' : World) : Prop :=
  ∃ l' u', e = .returned (pI m l' u') ∧ RdM .u32 w' l' m.li ∧ Rd w' u' (lb m.ty) ∧ New w w' ∧ Fresh w l' ∧ Fresh w u' ∧ (∀ k, l'.ownBlock = some k → k < w'.heap.size) ∧ (∀ k, u'.ownBlock = some k → k < w'.heap.size)
theorem fresh_ne {w0 : World} {v : Value} {g : Nat} (hf : Fresh w0 v) (hg : g < w0.heap.size) : v.ownBlock ≠ some g := fun e => by
  have := hf g e
  omega
theorem hpB {w w' : World} {g : Nat} {o : Obj} {v v' : Value} (h : w.heap[g]? = some o) (ha : Adds w w' v v') (hne : v.ownBlock ≠ some g) : w'.heap[g]? = some o :=
  (ha.upd.block g (Array.getElem?_eq_some_iff.1 h).1 (fun e => hne e)).trans h
theorem run_setRow {w : World} {g : Nat} {old cs : Array Value} {t : TypeId} (hg : w.heap[g]? = some (.cells old t)) : Upd (fun k => k = g) w (w.setRow g cs) ∧ (w.setRow g cs).heap[g]? = some (.cells cs t) := by
  refine ⟨⟨rfl, rfl, rfl, ?_, ?_⟩, setRow_heap w g old cs t (0, 0) hg⟩
  · unfold World.setRow
    simp
  · intro k _ hn
    unfold World.setRow
    simp only [Array.getElem?_modify]
    rw [if_neg (fun e => hn e.symm)]
/-- what holds between the steps -/
def OS (w : World) (m : Ins) (l : Value) (w' : World) : Prop := New w w' ∧ BoxR w' w.heap.size m l ∧ w.heap.size + 2 ≤ w'.heap.size
theorem OS.new {w : World} {m : Ins} {l : Value} {a b : World} (h : OS w m l a) (k : New a b) : OS w m l b := ⟨New.trans h.1 k, hp1 h.2.1 k, Nat.le_trans h.2.2 k.size⟩
/-- v lies behind the two first blocks -/
def F2 (w : World) (v : Value) : Prop := ∀ k, v.ownBlock = some k → w.heap.size + 2 ≤ k
theorem F2.fresh {w : World} {v : Value} (h : F2 w v) : Fresh w v := fun k hk => by have := h k hk; omega
theorem F2.of {w : World} {m : Ins} {l v : Value} {a : World} (h : OS w m l a) (k : Fresh a v) : F2 w v := fun i hi => Nat.le_trans h.2.2 (k i hi)
theorem F2.adds {w a b : World} {m : Ins} {l v v' : Value} (h : F2 w v) (hs : OS w m l a) (ha : Adds a b v v') : F2 w v' := by
  intro k hk
  rcases ha.at' with e | ⟨j, e, hj⟩
  · exact h k (by rw [← e]; exact hk)
  · rw [e] at hk; cases hk; exact Nat.le_trans hs.2.2 hj
theorem OS.adds {w a b : World} {m : Ins} {l v v' : Value} (h : OS w m l a) (hf : F2 w v) (ha : Adds a b v v') : OS w m l b :=
  ⟨Upd.newAdds h.1 hf.fresh ha, hpB h.2.1 ha (fun e => by have := hf _ e; omega), Nat.le_trans h.2.2 ha.upd.size⟩
theorem rowStep {K : Act → World → Prop} {a : Act} {W : World} (h : ∀ W2, New W W2 → NRow W2 (.slice (some ⟨W.heap.size, 0, none⟩) 0 0) [] → W.heap.size < W2.heap.size → K a W2) : K a (W.alloc (.cells #[] 22)) :=
  h _ ((Upd.refl _ _).alloc _) (NRow.made W) (by simp)
theorem step_store_row {P : Program} {ops : Array Oper} {o : Oper} {a : Act} {Q : Exit → Act → World → Prop} {w : World} {K : Act → World → Prop} {E : Prop} (ty : TypeId) (x y : Operand) (hwt : Region.wanted o (yielded ops a.tmps) = true) (ho : o.op = .store ty x y)
    (g : Nat) (cs : Array Value) (hx : a.eval x = .pointer (some ⟨g, 0, none⟩)) (hy : a.eval y = .agg cs)
    (t : TypeId) (old : Array Value) (hg : w.heap[g]? = some (.cells old t (0, 0))) (hi : (P.info? ty).map (·.size) = some cs.size)
    (hold : old.size = cs.size) (h1 : cs.all (·.oneCell') = true)
    (h : K (a.put o.dst undef) (w.setRow g cs)) : if Region.wanted o (yielded ops a.tmps) = true then Oper.wp P o a w K Q else E := by
  rw [if_pos hwt]
  exact wp_store_row ty x y ho g cs hx hy t old hg hi hold h1 h
theorem cells_one (m : Ins) (a a' : Option Addr) (n n' c c' : Nat) : (cells m (.slice a n c) (.slice a' n' c')).all (·.oneCell') = true := by
  unfold cells
  simp [Value.oneCell']
theorem OS.set {w a b : World} {m : Ins} {l : Value} (h : OS w m l a) (hu : Upd (fun k => k = w.heap.size + 1) a b) : OS w m l b :=
  ⟨Upd.trans h.1 hu (fun i hi e => absurd hi (by omega)), (hu.block w.heap.size (by have := h.2.2; omega) (by omega)).trans h.2.1, Nat.le_trans h.2.2 hu.size⟩
theorem infoI : (Tryd.prog.info? 93).map (·.size) = some 12 := by kernel_rfl

theorem own_any (m : Ins) (l : Value) (w : World) (h1 : RdM .u32 w l m.li) (s1 : m.li.length ≤ 1000) (s3 : m.ty.size ≤ 1000) :
    Calls Tryd.prog 28 #[rI m l] w (OwnP m w) := by
  have HVA := hid (fun w => lawVals_any m.ty w (by omega))
  have HL := hid h1
  obtain ⟨al, cl, rfl⟩ := h1.shape
  clear h1
  obtain ⟨p, c, k, t, i, x, y, li, n, raw, lane, ty⟩ := m
  unfold rI
  simp only at *
  obtain ⟨M, hM⟩ : ∃ M : Ins, M = ⟨p, c, k, t, i, x, y, li, n, raw, lane, ty⟩ := ⟨_, rfl⟩
  have HM := hid hM
  obtain ⟨w0, hw0⟩ : ∃ w0, (w.alloc (.cells (cellsR ⟨p, c, k, t, i, x, y, li, n, raw, lane, ty⟩ (.slice al li.length cl)) 98)).alloc (.cells (cells (zeroI 0 0) (.slice none 0 0) (.slice none 0 0)) 93) = w0 := ⟨_, rfl⟩
  have HS0 : Hid (OS w M (.slice al li.length cl) w0) := by
    show OS _ _ _ _
    rw [← hw0, hM]
    exact ⟨((Upd.refl _ _).alloc _).alloc _, hp_old (by simp) (hp_new rfl), by simp⟩
  have HZ0 : Hid (Box w0 (w.heap.size + 1) (zeroI 0 0) (.slice none 0 0) (.slice none 0 0)) := by show Box _ _ _ _ _; rw [← hw0]; exact hp_new (by simp)
  clear hM
  unfold cellsR cells zeroI at hw0
  simp only at hw0
  have HW := hid hw0
  clear hw0
  go_enter Tryd.func28, Tryd.ntmps28
  go_wp2_with fail
  rw [HW.out]
  have hn : OS w M (.slice al li.length cl) w0.drew := HS0.out.new (Upd.refl _ _).drew
  have hz : Box w0.drew (w.heap.size + 1) (zeroI 0 0) (.slice none 0 0) (.slice none 0 0) := HZ0.out
  have HC : Hid (∀ w', OS w M (.slice al li.length cl) w' → ∀ (j : Nat) v, (cellsR ⟨p, c, k, t, i, x, y, li, n, raw, lane, ty⟩ (.slice al li.length cl))[j]? = some v → w'.cell? ⟨w.heap.size, j, none⟩ = some v) := by
    show ∀ w', _
    intro w' h j v hv
    have := h.2.1
    rw [HM.out] at this
    exact cellAt this j hv
  clear HS0 HZ0 HW
  refine wp_region_noPanic ?_
  refine wp_region_held_drew (S := (OS w M (.slice al li.length cl))) (by kernel_rfl) (by first | exact hn | exact (Upd.refl _ _).drew | exact Upd.drew (by assumption)) (fun hn => ?_)
  generalize w0.drew = wd at *
  refine wpAnyH_take (i := 0) (oi := { dst := some 3, op := Op.fieldAddr 98 (Operand.tmp 1) 0, type := 0, pos := "law.go:19", after := #[], guard := none }) (v := ?v14x1) rfl (by kernel_rfl) (by kernel_rfl) (by kernel_rfl) (fun _ _ _ h => h) (Or.inl ⟨by rfl, ?y14x1⟩) hn ?r14x1
  case y14x1 => (intro wS hS; (try go_simp); (try with_reducible rfl))
  try simp only [Act.put, List.setIfInBounds_toArray, List.set_cons_zero, List.set_cons_succ]
  refine wpAnyH_take (i := 1) (oi := { dst := some 4, op := Op.load 5 (Operand.tmp 3), type := 5, pos := "law.go:19", after := #[{ on := 0, ground := Ground.data }], guard := none }) (v := ?v14x2) rfl (by kernel_rfl) (by kernel_rfl) (by kernel_rfl) (fun _ _ _ h => h) (Or.inl ⟨by rfl, ?y14x2⟩) hn ?r14x2
  case y14x2 => (intro wS hS; have c0 : wS.cell? ⟨w.heap.size, 0, none⟩ = some (.int .u8 p) := HC.out _ hS 0 _ rfl; (try go_simp); (try with_reducible rfl))
  try simp only [Act.put, List.setIfInBounds_toArray, List.set_cons_zero, List.set_cons_succ]
  refine wpAnyH_take (i := 2) (oi := { dst := some 5, op := Op.fieldAddr 98 (Operand.tmp 1) 1, type := 0, pos := "law.go:19", after := #[], guard := none }) (v := ?v14x3) rfl (by kernel_rfl) (by kernel_rfl) (by kernel_rfl) (fun _ _ _ h => h) (Or.inl ⟨by rfl, ?y14x3⟩) hn ?r14x3
  case y14x3 => (intro wS hS; (try go_simp); (try with_reducible rfl))
  try simp only [Act.put, List.setIfInBounds_toArray, List.set_cons_zero, List.set_cons_succ]
  refine wpAnyH_take (i := 3) (oi := { dst := some 6, op := Op.load 22 (Operand.tmp 5), type := 22, pos := "law.go:19", after := #[{ on := 2, ground := Ground.data }], guard := none }) (v := ?v14x4) rfl (by kernel_rfl) (by kernel_rfl) (by kernel_rfl) (fun _ _ _ h => h) (Or.inl ⟨by rfl, ?y14x4⟩) hn ?r14x4
  case y14x4 => (intro wS hS; have c0 : wS.cell? ⟨w.heap.size, 1, none⟩ = some (.int .u32 c) := HC.out _ hS 1 _ rfl; (try go_simp); (try with_reducible rfl))
  try simp only [Act.put, List.setIfInBounds_toArray, List.set_cons_zero, List.set_cons_succ]
  refine wpAnyH_take (i := 4) (oi := { dst := some 7, op := Op.build 87 #[(0, Operand.tmp 4), (1, Operand.tmp 6)], type := 87, pos := "law.go:19", after := #[{ on := 1, ground := Ground.data }, { on := 3, ground := Ground.data }], guard := none }) (v := ?v14x5) rfl (by kernel_rfl) (by kernel_rfl) (by kernel_rfl) (fun _ _ _ h => h) (Or.inl ⟨by rfl, ?y14x5⟩) hn ?r14x5
  case y14x5 => (intro wS hS; (try go_simp); (try with_reducible rfl))
  try simp only [Act.put, List.setIfInBounds_toArray, List.set_cons_zero, List.set_cons_succ]
  refine wpAnyH_take (i := 5) (oi := { dst := some 8, op := Op.fieldAddr 98 (Operand.tmp 1) 2, type := 0, pos := "law.go:19", after := #[], guard := none }) (v := ?v14x6) rfl (by kernel_rfl) (by kernel_rfl) (by kernel_rfl) (fun _ _ _ h => h) (Or.inl ⟨by rfl, ?y14x6⟩) hn ?r14x6
  case y14x6 => (intro wS hS; (try go_simp); (try with_reducible rfl))
  try simp only [Act.put, List.setIfInBounds_toArray, List.set_cons_zero, List.set_cons_succ]
  refine wpAnyH_take (i := 6) (oi := { dst := some 9, op := Op.load 3 (Operand.tmp 8), type := 3, pos := "law.go:19", after := #[{ on := 5, ground := Ground.data }], guard := none }) (v := ?v14x7) rfl (by kernel_rfl) (by kernel_rfl) (by kernel_rfl) (fun _ _ _ h => h) (Or.inl ⟨by rfl, ?y14x7⟩) hn ?r14x7
  case y14x7 => (intro wS hS; have c0 : wS.cell? ⟨w.heap.size, 2, none⟩ = some (.int .i64 k) := HC.out _ hS 2 _ rfl; (try go_simp); (try with_reducible rfl))
  try simp only [Act.put, List.setIfInBounds_toArray, List.set_cons_zero, List.set_cons_succ]
  refine wpAnyH_take (i := 7) (oi := { dst := some 10, op := Op.fieldAddr 98 (Operand.tmp 1) 3, type := 0, pos := "law.go:19", after := #[], guard := none }) (v := ?v14x8) rfl (by kernel_rfl) (by kernel_rfl) (by kernel_rfl) (fun _ _ _ h => h) (Or.inl ⟨by rfl, ?y14x8⟩) hn ?r14x8
  case y14x8 => (intro wS hS; (try go_simp); (try with_reducible rfl))
  try simp only [Act.put, List.setIfInBounds_toArray, List.set_cons_zero, List.set_cons_succ]
  refine wpAnyH_take (i := 8) (oi := { dst := some 11, op := Op.load 5 (Operand.tmp 10), type := 5, pos := "law.go:19", after := #[{ on := 7, ground := Ground.data }], guard := none }) (v := ?v14x9) rfl (by kernel_rfl) (by kernel_rfl) (by kernel_rfl) (fun _ _ _ h => h) (Or.inl ⟨by rfl, ?y14x9⟩) hn ?r14x9
  case y14x9 => (intro wS hS; have c0 : wS.cell? ⟨w.heap.size, 3, none⟩ = some (.int .u8 t) := HC.out _ hS 3 _ rfl; (try go_simp); (try with_reducible rfl))
  try simp only [Act.put, List.setIfInBounds_toArray, List.set_cons_zero, List.set_cons_succ]
  refine wpAnyH_take (i := 9) (oi := { dst := some 12, op := Op.fieldAddr 98 (Operand.tmp 1) 4, type := 0, pos := "law.go:19", after := #[], guard := none }) (v := ?v14x10) rfl (by kernel_rfl) (by kernel_rfl) (by kernel_rfl) (fun _ _ _ h => h) (Or.inl ⟨by rfl, ?y14x10⟩) hn ?r14x10
  case y14x10 => (intro wS hS; (try go_simp); (try with_reducible rfl))
  try simp only [Act.put, List.setIfInBounds_toArray, List.set_cons_zero, List.set_cons_succ]
  refine wpAnyH_take (i := 10) (oi := { dst := some 13, op := Op.load 22 (Operand.tmp 12), type := 22, pos := "law.go:19", after := #[{ on := 9, ground := Ground.data }], guard := none }) (v := ?v14x11) rfl (by kernel_rfl) (by kernel_rfl) (by kernel_rfl) (fun _ _ _ h => h) (Or.inl ⟨by rfl, ?y14x11⟩) hn ?r14x11
  case y14x11 => (intro wS hS; have c0 : wS.cell? ⟨w.heap.size, 4, none⟩ = some (.int .u32 i) := HC.out _ hS 4 _ rfl; (try go_simp); (try with_reducible rfl))
  try simp only [Act.put, List.setIfInBounds_toArray, List.set_cons_zero, List.set_cons_succ]
  refine wpAnyH_take (i := 11) (oi := { dst := some 14, op := Op.build 89 #[(0, Operand.tmp 9), (1, Operand.tmp 11), (2, Operand.tmp 13)], type := 89, pos := "law.go:19", after := #[{ on := 6, ground := Ground.data }, { on := 8, ground := Ground.data }, { on := 10, ground := Ground.data }], guard := none }) (v := ?v14x12) rfl (by kernel_rfl) (by kernel_rfl) (by kernel_rfl) (fun _ _ _ h => h) (Or.inl ⟨by rfl, ?y14x12⟩) hn ?r14x12
  case y14x12 => (intro wS hS; (try go_simp); (try with_reducible rfl))
  try simp only [Act.put, List.setIfInBounds_toArray, List.set_cons_zero, List.set_cons_succ]
  refine wpAnyH_take (i := 12) (oi := { dst := some 15, op := Op.fieldAddr 98 (Operand.tmp 1) 5, type := 0, pos := "law.go:19", after := #[], guard := none }) (v := ?v14x13) rfl (by kernel_rfl) (by kernel_rfl) (by kernel_rfl) (fun _ _ _ h => h) (Or.inl ⟨by rfl, ?y14x13⟩) hn ?r14x13
  case y14x13 => (intro wS hS; (try go_simp); (try with_reducible rfl))
  try simp only [Act.put, List.setIfInBounds_toArray, List.set_cons_zero, List.set_cons_succ]
  refine wpAnyH_take (i := 13) (oi := { dst := some 16, op := Op.load 22 (Operand.tmp 15), type := 22, pos := "law.go:19", after := #[{ on := 12, ground := Ground.data }], guard := none }) (v := ?v14x14) rfl (by kernel_rfl) (by kernel_rfl) (by kernel_rfl) (fun _ _ _ h => h) (Or.inl ⟨by rfl, ?y14x14⟩) hn ?r14x14
  case y14x14 => (intro wS hS; have c0 : wS.cell? ⟨w.heap.size, 5, none⟩ = some (.int .u32 x) := HC.out _ hS 5 _ rfl; (try go_simp); (try with_reducible rfl))
  try simp only [Act.put, List.setIfInBounds_toArray, List.set_cons_zero, List.set_cons_succ]
  refine wpAnyH_take (i := 14) (oi := { dst := some 17, op := Op.fieldAddr 98 (Operand.tmp 1) 6, type := 0, pos := "law.go:19", after := #[], guard := none }) (v := ?v14x15) rfl (by kernel_rfl) (by kernel_rfl) (by kernel_rfl) (fun _ _ _ h => h) (Or.inl ⟨by rfl, ?y14x15⟩) hn ?r14x15
  case y14x15 => (intro wS hS; (try go_simp); (try with_reducible rfl))
  try simp only [Act.put, List.setIfInBounds_toArray, List.set_cons_zero, List.set_cons_succ]
  refine wpAnyH_take (i := 15) (oi := { dst := some 18, op := Op.load 22 (Operand.tmp 17), type := 22, pos := "law.go:19", after := #[{ on := 14, ground := Ground.data }], guard := none }) (v := ?v14x16) rfl (by kernel_rfl) (by kernel_rfl) (by kernel_rfl) (fun _ _ _ h => h) (Or.inl ⟨by rfl, ?y14x16⟩) hn ?r14x16
  case y14x16 => (intro wS hS; have c0 : wS.cell? ⟨w.heap.size, 6, none⟩ = some (.int .u32 y) := HC.out _ hS 6 _ rfl; (try go_simp); (try with_reducible rfl))
  try simp only [Act.put, List.setIfInBounds_toArray, List.set_cons_zero, List.set_cons_succ]
  refine wpAnyH_take (i := 17) (oi := { dst := some 20, op := Op.fieldAddr 98 (Operand.tmp 1) 7, type := 0, pos := "law.go:19", after := #[], guard := none }) (v := ?v14x17) rfl (by kernel_rfl) (by kernel_rfl) (by kernel_rfl) (fun _ _ _ h => h) (Or.inl ⟨by rfl, ?y14x17⟩) hn ?r14x17
  case y14x17 => (intro wS hS; (try go_simp); (try with_reducible rfl))
  try simp only [Act.put, List.setIfInBounds_toArray, List.set_cons_zero, List.set_cons_succ]
  refine wpAnyH_take (i := 18) (oi := { dst := some 21, op := Op.load 90 (Operand.tmp 20), type := 90, pos := "law.go:19", after := #[{ on := 17, ground := Ground.data }], guard := none }) (v := ?v14x18) rfl (by kernel_rfl) (by kernel_rfl) (by kernel_rfl) (fun _ _ _ h => h) (Or.inl ⟨by rfl, ?y14x18⟩) hn ?r14x18
  case y14x18 => (intro wS hS; have c0 : wS.cell? ⟨w.heap.size, 7, none⟩ = some (.slice al li.length cl) := HC.out _ hS 7 _ rfl; (try go_simp); (try with_reducible rfl))
  try simp only [Act.put, List.setIfInBounds_toArray, List.set_cons_zero, List.set_cons_succ]
  refine wpAnyH_take (i := 20) (oi := { dst := some 23, op := Op.fieldAddr 98 (Operand.tmp 1) 8, type := 0, pos := "law.go:19", after := #[], guard := none }) (v := ?v14x19) rfl (by kernel_rfl) (by kernel_rfl) (by kernel_rfl) (fun _ _ _ h => h) (Or.inl ⟨by rfl, ?y14x19⟩) hn ?r14x19
  case y14x19 => (intro wS hS; (try go_simp); (try with_reducible rfl))
  try simp only [Act.put, List.setIfInBounds_toArray, List.set_cons_zero, List.set_cons_succ]
  refine wpAnyH_take (i := 21) (oi := { dst := some 24, op := Op.load 2 (Operand.tmp 23), type := 2, pos := "law.go:19", after := #[{ on := 20, ground := Ground.data }], guard := none }) (v := ?v14x20) rfl (by kernel_rfl) (by kernel_rfl) (by kernel_rfl) (fun _ _ _ h => h) (Or.inl ⟨by rfl, ?y14x20⟩) hn ?r14x20
  case y14x20 => (intro wS hS; have c0 : wS.cell? ⟨w.heap.size, 8, none⟩ = some (.int .i64 n) := HC.out _ hS 8 _ rfl; (try go_simp); (try with_reducible rfl))
  try simp only [Act.put, List.setIfInBounds_toArray, List.set_cons_zero, List.set_cons_succ]
  refine wpAnyH_take (i := 22) (oi := { dst := some 25, op := Op.fieldAddr 98 (Operand.tmp 1) 9, type := 0, pos := "law.go:19", after := #[], guard := none }) (v := ?v14x21) rfl (by kernel_rfl) (by kernel_rfl) (by kernel_rfl) (fun _ _ _ h => h) (Or.inl ⟨by rfl, ?y14x21⟩) hn ?r14x21
  case y14x21 => (intro wS hS; (try go_simp); (try with_reducible rfl))
  try simp only [Act.put, List.setIfInBounds_toArray, List.set_cons_zero, List.set_cons_succ]
  refine wpAnyH_take (i := 23) (oi := { dst := some 26, op := Op.load 9 (Operand.tmp 25), type := 9, pos := "law.go:19", after := #[{ on := 22, ground := Ground.data }], guard := none }) (v := ?v14x22) rfl (by kernel_rfl) (by kernel_rfl) (by kernel_rfl) (fun _ _ _ h => h) (Or.inl ⟨by rfl, ?y14x22⟩) hn ?r14x22
  case y14x22 => (intro wS hS; have c0 : wS.cell? ⟨w.heap.size, 9, none⟩ = some (.string raw) := HC.out _ hS 9 _ rfl; (try go_simp); (try with_reducible rfl))
  try simp only [Act.put, List.setIfInBounds_toArray, List.set_cons_zero, List.set_cons_succ]
  refine wpAnyH_take (i := 24) (oi := { dst := some 27, op := Op.fieldAddr 98 (Operand.tmp 1) 10, type := 0, pos := "law.go:19", after := #[], guard := none }) (v := ?v14x23) rfl (by kernel_rfl) (by kernel_rfl) (by kernel_rfl) (fun _ _ _ h => h) (Or.inl ⟨by rfl, ?y14x23⟩) hn ?r14x23
  case y14x23 => (intro wS hS; (try go_simp); (try with_reducible rfl))
  try simp only [Act.put, List.setIfInBounds_toArray, List.set_cons_zero, List.set_cons_succ]
  refine wpAnyH_take (i := 25) (oi := { dst := some 28, op := Op.load 5 (Operand.tmp 27), type := 5, pos := "law.go:19", after := #[{ on := 24, ground := Ground.data }], guard := none }) (v := ?v14x24) rfl (by kernel_rfl) (by kernel_rfl) (by kernel_rfl) (fun _ _ _ h => h) (Or.inl ⟨by rfl, ?y14x24⟩) hn ?r14x24
  case y14x24 => (intro wS hS; have c0 : wS.cell? ⟨w.heap.size, 10, none⟩ = some (.int .u8 lane) := HC.out _ hS 10 _ rfl; (try go_simp); (try with_reducible rfl))
  try simp only [Act.put, List.setIfInBounds_toArray, List.set_cons_zero, List.set_cons_succ]
  refine wpAnyH_take (i := 26) (oi := { dst := some 29, op := Op.fieldAddr 98 (Operand.tmp 1) 11, type := 0, pos := "law.go:19", after := #[], guard := none }) (v := ?v14x25) rfl (by kernel_rfl) (by kernel_rfl) (by kernel_rfl) (fun _ _ _ h => h) (Or.inl ⟨by rfl, ?y14x25⟩) hn ?r14x25
  case y14x25 => (intro wS hS; (try go_simp); (try with_reducible rfl))
  try simp only [Act.put, List.setIfInBounds_toArray, List.set_cons_zero, List.set_cons_succ]
  refine wpAnyH_take (i := 27) (oi := { dst := some 30, op := Op.load 9 (Operand.tmp 29), type := 9, pos := "law.go:19", after := #[{ on := 26, ground := Ground.data }], guard := none }) (v := ?v14x26) rfl (by kernel_rfl) (by kernel_rfl) (by kernel_rfl) (fun _ _ _ h => h) (Or.inl ⟨by rfl, ?y14x26⟩) hn ?r14x26
  case y14x26 => (intro wS hS; have c0 : wS.cell? ⟨w.heap.size, 11, none⟩ = some (.string ty) := HC.out _ hS 11 _ rfl; (try go_simp); (try with_reducible rfl))
  try simp only [Act.put, List.setIfInBounds_toArray, List.set_cons_zero, List.set_cons_succ]
  refine wpAnyH_ready (rs := [16]) (by kernel_rfl) (by simp) ?_
  refine AllReadyH.cons (o := { dst := some 19, op := Op.buildSlice 90 0 #[], type := 90, pos := "law.go:19", after := #[], guard := none }) rfl (fun K hK => ?_) AllReadyH.nil
  go_simp
  refine rowStep ?_
  intro wr hnr hrow hlt
  have hfs : F2 w (.slice (some ⟨wd.heap.size, 0, none⟩) 0 0) := fun k hk => by cases hk; exact hn.2.2
  have hz := hp1 hz hnr
  have hn := hn.new hnr
  refine hK.out _ _ (by first | exact hn | exact Upd.alloc hn _) (fun hn => ?_)
  clear hK K
  try simp only [Act.put, List.setIfInBounds_toArray, List.set_cons_zero, List.set_cons_succ]
  refine wpAnyH_ready (rs := [19]) (by kernel_rfl) (by simp) ?_
  refine AllReadyH.cons (o := { dst := some 22, op := Op.call { callee := Callee.builtin Builtin.append, args := #[Operand.tmp 19, Operand.tmp 21], argTypes := #[90, 90] }, type := 90, pos := "law.go:19", after := #[{ on := 16, ground := Ground.data }, { on := 18, ground := Ground.data }], guard := none }) rfl (fun K hK => ?_) AllReadyH.nil
  refine stepN _ _ hrow (HL.out.new hn.1) (by simp only [List.length_nil]; omega) rfl rfl rfl rfl ?_
  intro vr ws hro har
  rw [List.nil_append] at hro
  obtain ⟨ar, cr, rfl⟩ := hro.rd.shape
  have hz := hpB hz har (fun e => by have := hfs _ e; omega)
  have hfr := hfs.adds hn har
  have hn := hn.adds hfs har
  refine hK.out _ _ (by first | exact hn | exact Upd.alloc hn _) (fun hn => ?_)
  clear hK K
  try simp only [Act.put, List.setIfInBounds_toArray, List.set_cons_zero, List.set_cons_succ]
  refine wpAnyH_ready (rs := [28]) (by kernel_rfl) (by simp) ?_
  refine AllReadyH.cons (o := { dst := some 31, op := Op.call { callee := Callee.value (Operand.func 39), args := #[Operand.tmp 30], argTypes := #[9] }, type := 91, pos := "law.go:19", after := #[{ on := 27, ground := Ground.data }, { on := 19, ground := Ground.chain }], guard := none }) rfl (fun K hK => ?_) AllReadyH.nil
  go_simp
  refine (HVA.out _).mono ?_
  rintro e wq ⟨vq, rfl, hvs, hnq, hvf, hvl⟩
  obtain ⟨aq, cq, rfl⟩ := hvs.shape
  go_wp2_with fail
  have hvf := F2.of hn hvf
  have hz := hp1 hz hnq
  have hn := hn.new hnq
  have hro := hro.new hnq
  refine hK.out _ _ (by first | exact hn | exact Upd.alloc hn _) (fun hn => ?_)
  clear hK K
  try simp only [Act.put, List.setIfInBounds_toArray, List.set_cons_zero, List.set_cons_succ]
  refine wpAnyH_take (i := 29) (oi := { dst := some 32, op := Op.build 93 #[(0, Operand.tmp 7), (1, Operand.tmp 14), (2, Operand.tmp 16), (3, Operand.tmp 18), (4, Operand.tmp 22), (5, Operand.tmp 24), (6, Operand.tmp 26), (7, Operand.tmp 28), (8, Operand.tmp 31)], type := 93, pos := "law.go:19", after := #[{ on := 4, ground := Ground.data }, { on := 11, ground := Ground.data }, { on := 13, ground := Ground.data }, { on := 15, ground := Ground.data }, { on := 19, ground := Ground.data }, { on := 21, ground := Ground.data }, { on := 23, ground := Ground.data }, { on := 25, ground := Ground.data }, { on := 28, ground := Ground.data }], guard := none }) (v := ?v14x27) rfl (by kernel_rfl) (by kernel_rfl) (by kernel_rfl) (fun _ _ _ h => h) (Or.inl ⟨by rfl, ?y14x27⟩) hn ?r14x27
  case y14x27 => (intro wS hS; (try go_simp); (try with_reducible rfl))
  try simp only [Act.put, List.setIfInBounds_toArray, List.set_cons_zero, List.set_cons_succ]
  refine wpAnyH_ready (rs := [30]) (by kernel_rfl) (by simp) ?_
  refine AllReadyH.cons (o := { dst := none, op := Op.store 93 (Operand.tmp 2) (Operand.tmp 32), type := 0, pos := "law.go:19", after := #[{ on := 29, ground := Ground.data }, { on := 28, ground := Ground.chain }, { on := 0, ground := Ground.phase }, { on := 1, ground := Ground.phase }, { on := 2, ground := Ground.phase }, { on := 3, ground := Ground.phase }, { on := 4, ground := Ground.phase }, { on := 5, ground := Ground.phase }, { on := 6, ground := Ground.phase }, { on := 7, ground := Ground.phase }, { on := 8, ground := Ground.phase }, { on := 9, ground := Ground.phase }, { on := 10, ground := Ground.phase }, { on := 11, ground := Ground.phase }, { on := 12, ground := Ground.phase }, { on := 13, ground := Ground.phase }, { on := 14, ground := Ground.phase }, { on := 15, ground := Ground.phase }, { on := 16, ground := Ground.phase }, { on := 17, ground := Ground.phase }, { on := 18, ground := Ground.phase }, { on := 19, ground := Ground.phase }, { on := 20, ground := Ground.phase }, { on := 21, ground := Ground.phase }, { on := 22, ground := Ground.phase }, { on := 23, ground := Ground.phase }, { on := 24, ground := Ground.phase }, { on := 25, ground := Ground.phase }, { on := 26, ground := Ground.phase }, { on := 27, ground := Ground.phase }, { on := 28, ground := Ground.phase }, { on := 29, ground := Ground.phase }], guard := none }) rfl (fun K hK => ?_) AllReadyH.nil
  refine step_store_row 93 _ _ rfl rfl (w.heap.size + 1) (cells ⟨p, c, k, t, i, x, y, li, n, raw, lane, ty⟩ (.slice ar li.length cr) (.slice aq (lb ty).length cq)) rfl rfl 93 _ hz infoI rfl (cells_one _ _ _ _ _ _ _) ?_
  obtain ⟨hus, hbs⟩ := run_setRow (cs := cells ⟨p, c, k, t, i, x, y, li, n, raw, lane, ty⟩ (.slice ar li.length cr) (.slice aq (lb ty).length cq)) hz
  have hn := hn.set hus
  have hro := ownsRow_upd hro hus (fun k hk e => by have := hfr k hk; omega)
  have hvs := hvs.upd hus (fun k hk e => by have := hvf k hk; omega)
  have hvl := fun k h => Nat.lt_of_lt_of_le (hvl k h) hus.size
  clear hus
  refine hK.out _ _ (by first | exact hn | exact Upd.alloc hn _) (fun hn => ?_)
  clear hK K
  try simp only [Act.put, List.setIfInBounds_toArray, List.set_cons_zero, List.set_cons_succ]
  refine wpAnyH_done (by kernel_rfl) ?_ _
  refine NoPanic.normal ?_
  go_wp2_with fail
  refine ret_agg rfl Tryd.underlying93 rfl (w.heap.size + 1) (cells ⟨p, c, k, t, i, x, y, li, n, raw, lane, ty⟩ (.slice ar li.length cr) (.slice aq (lb ty).length cq)) 93 infoI rfl rfl hbs ⟨_, _, rfl, NRow.rd hro, hvs, hn.1, hfr.fresh, hvf.fresh, NRow.lt hro, hvl⟩
end Go.Proofs.YtbllpajibhiobaaDoor

namespace Go.Proofs.YtbllpajibhiobaaDoor
open Go.RowKit Go.Proofs.Leb Go.Proofs.Own
set_option maxRecDepth 100000

/-- an instruction's row, the program's: its numbers and its types lie in the blocks B -/
def EP : ERep Ins := fun w B m row => ∃ l u, row = (cells m l u).toList ∧ RdM .u32 w l m.li ∧ Rd w u (lb m.ty) ∧ (∀ k, l.ownBlock = some k → B k) ∧ (∀ k, u.ownBlock = some k → B k)
/-- the document's -/
def ER : ERep Ins := fun w B m row => ∃ l, row = (cellsR m l).toList ∧ RdM .u32 w l m.li ∧ (∀ k, l.ownBlock = some k → B k)
theorem EP.ok : EP.Ok :=
  ⟨fun ⟨l, u, e, h1, h2, h3, h4⟩ hu hS => ⟨l, u, e, h1.upd hu (fun k hk => hS k (h3 k hk)), h2.upd hu (fun k hk => hS k (h4 k hk)), h3, h4⟩,
   fun ⟨l, u, e, h1, h2, h3, h4⟩ hB => ⟨l, u, e, h1, h2, fun k hk => hB k (h3 k hk), fun k hk => hB k (h4 k hk)⟩⟩
theorem ER.ok : ER.Ok :=
  ⟨fun ⟨l, e, h1, h3⟩ hu hS => ⟨l, e, h1.upd hu (fun k hk => hS k (h3 k hk)), h3⟩, fun ⟨l, e, h1, h3⟩ hB => ⟨l, e, h1, fun k hk => hB k (h3 k hk)⟩⟩
/-- its cells -/
def At12 (w : World) (b o : Nat) (cs : Array Value) : Prop := ∀ j u, cs[j]? = some u → w.cell? ⟨b, o + j, none⟩ = some u
theorem At12.new {w w' : World} {b o : Nat} {cs : Array Value} (h : At12 w b o cs) (hn : New w w') : At12 w' b o cs := fun j u hj => hn.cell (h j u hj) (fun h => h)
theorem insR_at {w : World} {B : Nat → Prop} {v : Value} {xs : List Ins} (h : RdE 12 ER w B v xs) : ∃ a cap, v = .slice a xs.length cap ∧ ∀ i (hi : i < xs.length), ∃ b o l, a = some ⟨b, o, none⟩ ∧ At12 w b (o + i * 12) (cellsR xs[i] l) ∧ RdM .u32 w l xs[i].li ∧ ∀ k, l.ownBlock = some k → B k := by
  obtain ⟨a, cap, rfl, hat⟩ := h.at
  refine ⟨a, cap, rfl, fun i hi => ?_⟩
  obtain ⟨b, o, row, rfl, hl, ⟨l, rfl, h1, h2⟩, hc⟩ := hat i hi
  exact ⟨b, o, l, rfl, fun j u hj => hc j u (by rw [Array.getElem?_toList]; exact hj), h1, h2⟩
theorem insP_at {w : World} {B : Nat → Prop} {v : Value} {xs : List Ins} (h : RdE 12 EP w B v xs) : ∃ a cap, v = .slice a xs.length cap ∧ ∀ i (hi : i < xs.length), ∃ b o l u, a = some ⟨b, o, none⟩ ∧ At12 w b (o + i * 12) (cells xs[i] l u) ∧ RdM .u32 w l xs[i].li ∧ Rd w u (lb xs[i].ty) ∧ (∀ k, l.ownBlock = some k → B k) ∧ ∀ k, u.ownBlock = some k → B k := by
  obtain ⟨a, cap, rfl, hat⟩ := h.at
  refine ⟨a, cap, rfl, fun i hi => ?_⟩
  obtain ⟨b, o, row, rfl, hl, ⟨l, u, rfl, h1, h2, h3, h4⟩, hc⟩ := hat i hi
  exact ⟨b, o, l, u, rfl, fun j x hj => hc j x (by rw [Array.getElem?_toList]; exact hj), h1, h2, h3, h4⟩
end Go.Proofs.YtbllpajibhiobaaDoor

namespace Go.Proofs.YtbllpajibhiobaaDoor
open Go.RowKit Go.Proofs.Leb Go.Proofs.Own
set_option maxRecDepth 100000
set_option maxHeartbeats 4000000

def GreatQ (m : Ins) : Prop := 100 < m.li.length ∨ 100 < m.raw.size ∨ 100 < m.ty.size
theorem great_any (m : Ins) (l : Value) (w : World) (h1 : ∃ a c, l = .slice a m.li.length c) : Calls Tryd.prog 27 #[rI m l] w (SameP (GreatQ m) w) := by
  obtain ⟨al, cl, rfl⟩ := h1
  obtain ⟨p, c, k, t, i, x, y, li, n, raw, lane, ty⟩ := m
  unfold rI GreatQ
  simp only
  have HN := hid (fun o => (Upd.refl (fun _ => False) w).alloc o)
  go_enter Tryd.func27, Tryd.ntmps27
  go_wp2_with fail
  all_goals go_ret
  all_goals refine ⟨_, rfl, ?_, HN.out _⟩
  all_goals first
    | (refine iff_of_true rfl ?_; omega)
    | (refine iff_of_false (by decide) ?_; omega)
    | (simp; omega)
/-- no more than is looked at -/
def Fit7 (m : Ins) : Prop := m.li.length ≤ 100 ∧ m.raw.size ≤ 100 ∧ m.ty.size ≤ 100
theorem fit7_of {m : Ins} (h : ¬ GreatQ m) : Fit7 m := by
  unfold GreatQ at h
  unfold Fit7
  omega
end Go.Proofs.YtbllpajibhiobaaDoor

namespace Go.Proofs.YtbllpajibhiobaaDoor
open Go.RowKit Go.Proofs.Leb Go.Proofs.Own
set_option maxRecDepth 100000
set_option maxHeartbeats 8000000

/-- memory that was made since -/
def Since8 (w w' : World) : Nat → Prop := fun k => w.heap.size ≤ k ∧ k < w'.heap.size
def FitL (xs : List Ins) : Prop := xs.length ≤ 60 ∧ ∀ x ∈ xs, Fit7 x
/-- an answer; if it is no, q -/
def NoP (q : Prop) (w : World) (e : Ending) (w' : World) : Prop := ∃ b, e = .returned (.bool b) ∧ (b = false → q) ∧ New w w'
theorem at12R {w : World} {b o : Nat} {m : Ins} {l : Value} (h : At12 w b o (cellsR m l)) :
    w.cell? ⟨b, o, none⟩ = some (.int .u8 m.p) ∧ w.cell? ⟨b, o + 1, none⟩ = some (.int .u32 m.c) ∧ w.cell? ⟨b, o + 2, none⟩ = some (.int .i64 m.k) ∧ w.cell? ⟨b, o + 3, none⟩ = some (.int .u8 m.t) ∧ w.cell? ⟨b, o + 4, none⟩ = some (.int .u32 m.i) ∧
    w.cell? ⟨b, o + 5, none⟩ = some (.int .u32 m.x) ∧ w.cell? ⟨b, o + 6, none⟩ = some (.int .u32 m.y) ∧ w.cell? ⟨b, o + 7, none⟩ = some l ∧ w.cell? ⟨b, o + 8, none⟩ = some (.int .i64 m.n) ∧ w.cell? ⟨b, o + 9, none⟩ = some (.string m.raw) ∧ w.cell? ⟨b, o + 10, none⟩ = some (.int .u8 m.lane) ∧ w.cell? ⟨b, o + 11, none⟩ = some (.string m.ty) :=
  ⟨h 0 _ rfl, h 1 _ rfl, h 2 _ rfl, h 3 _ rfl, h 4 _ rfl, h 5 _ rfl, h 6 _ rfl, h 7 _ rfl, h 8 _ rfl, h 9 _ rfl, h 10 _ rfl, h 11 _ rfl⟩
theorem at12P {w : World} {b o : Nat} {m : Ins} {l u : Value} (h : At12 w b o (cells m l u)) :
    w.cell? ⟨b, o, none⟩ = some (.int .u8 m.p) ∧ w.cell? ⟨b, o + 1, none⟩ = some (.int .u32 m.c) ∧ w.cell? ⟨b, o + 2, none⟩ = some (.int .i64 m.k) ∧ w.cell? ⟨b, o + 3, none⟩ = some (.int .u8 m.t) ∧ w.cell? ⟨b, o + 4, none⟩ = some (.int .u32 m.i) ∧
    w.cell? ⟨b, o + 5, none⟩ = some (.int .u32 m.x) ∧ w.cell? ⟨b, o + 6, none⟩ = some (.int .u32 m.y) ∧ w.cell? ⟨b, o + 7, none⟩ = some l ∧ w.cell? ⟨b, o + 8, none⟩ = some (.int .i64 m.n) ∧ w.cell? ⟨b, o + 9, none⟩ = some (.string m.raw) ∧ w.cell? ⟨b, o + 10, none⟩ = some (.int .u8 m.lane) ∧ w.cell? ⟨b, o + 11, none⟩ = some u :=
  ⟨h 0 _ rfl, h 1 _ rfl, h 2 _ rfl, h 3 _ rfl, h 4 _ rfl, h 5 _ rfl, h 6 _ rfl, h 7 _ rfl, h 8 _ rfl, h 9 _ rfl, h 10 _ rfl, h 11 _ rfl⟩
theorem allP_take {α : Type} {q : α → Prop} {xs : List α} {i : Nat} {x : α} (h : ∀ y ∈ xs.take i, q y) (hx : xs[i]? = some x) (hq : q x) : ∀ y ∈ xs.take (i + 1), q y := by
  rw [List.take_add_one, hx]
  intro y hy
  rcases List.mem_append.1 hy with hy | hy
  · exact h y hy
  · simp at hy
    subst hy
    exact hq

theorem great8_any {B : Nat → Prop} (v : Value) (xs : List Ins) (w : World) (hr : RdE 12 ER w B v xs) (hs : xs.length ≤ 140737488355328) :
    Calls Tryd.prog 18 #[v] w (NoP (FitL xs) w) := by
  obtain ⟨a, cap, rfl, hat⟩ := insR_at hr
  have HAT := hid hat
  clear hr hat
  have HG := hid (fun m l w' h => great_any m l w' h)
  go_enter Tryd.func18, Tryd.ntmps18
  go_wp2_with fail
  go_loopw [3] (fun c wr => ∃ i : Nat, c = .int .i64 i ∧ i ≤ xs.length ∧ i ≤ 61 ∧ (∀ x ∈ xs.take i, Fit7 x) ∧ New w wr) (fun c _ => xs.length - (intOf c).toNat)
  case atStart => exact ⟨0, rfl, by omega, by omega, by simp, Upd.refl _ _⟩
  case round =>
    obtain ⟨i, rfl, hi1, hi61, hfit, hnw⟩ := hrel
    have HFI := hid hfit
    have HN := hid hnw
    clear hfit
    by_cases hi : i < xs.length ∧ i ≤ 60
    · obtain ⟨hi, hi6⟩ := hi
      obtain ⟨b, o, l, rfl, hc, hl, -⟩ := HAT.out i hi
      obtain ⟨k0, k1, k2, k3, k4, k5, k6, k7, k8, k9, k10, k11⟩ := at12R (hc.new hnw)
      have HX : Hid (xs[i]? = some xs[i]) := List.getElem?_eq_getElem hi
      obtain ⟨al, cl, rfl⟩ := hl.shape
      generalize xs[i] = m at *
      have HC := hid (HG.out m (.slice al m.li.length cl) wr ⟨_, _, rfl⟩)
      obtain ⟨p, c, k, t, i', x, y, li, n, raw, lane, ty⟩ := m
      unfold rI at HC
      simp only at k0 k1 k2 k3 k4 k5 k6 k7 k8 k9 k10 k11 HC
      clear hc hl hnw
      go_wp2_with fail
      refine HC.out.mono ?_
      rintro e w2 ⟨bb, rfl, hb, hn2⟩
      have HN2 := hid (New.trans HN.out hn2)
      have HB := hid hb
      clear k0 k1 k2 k3 k4 k5 k6 k7 k8 k9 k10 k11 hn2 hb HC
      cases bb with
      | true =>
        go_wp2_with fail
        go_ret
        exact ⟨_, rfl, (fun h => by cases h), HN2.out⟩
      | false =>
        go_wp2_with fail
        go_roundw
        case rel => exact ⟨i + 1, by go_num, by omega, by omega, allP_take HFI.out HX.out (fit7_of fun h => by have := HB.out.2 h; cases this), HN2.out⟩
        case measure => simp [intOf]; omega
    · clear hnw
      by_cases h6 : i < xs.length
      · have e : i = 61 := by omega
        subst e
        have hg : 60 < xs.length := by omega
        go_wp2_with fail
        go_ret
        exact ⟨_, rfl, (fun h => by simp at h; omega), HN.out⟩
      · have e : i = xs.length := by omega
        subst e
        go_wp2_with fail
        go_ret
        refine ⟨_, rfl, (fun h => ⟨?_, ?_⟩), HN.out⟩
        · simp at h; omega
        · have := HFI.out
          rwa [List.take_length] at this
theorem infoIn : (Tryd.prog.info? 93).map (fun i => (i.zero, i.size, i.bytes)) = some (some (.agg #[.int .u8 0, .int .u32 0, .int .i64 0, .int .u8 0, .int .u32 0, .int .u32 0, .int .u32 0, .slice none 0 0, .int .i64 0, .string ⟨#[]⟩, .int .u8 0, .slice none 0 0]), 12, 112) := by kernel_rfl
theorem Off.mk {C : Nat → Prop} {w w' : World} {v : Value} {k : Nat} (h1 : k < w'.heap.size) (h2 : ∀ j, v.ownBlock = some j → j < w.heap.size) (h3 : w.heap.size ≤ k) (h4 : C k) : Off C w' v k :=
  ⟨⟨h1, fun e => by have := h2 k e; omega⟩, h4⟩
theorem own8_any {B : Nat → Prop} (v : Value) (xs : List Ins) (w : World) (hr : RdE 12 ER w B v xs) (hf : FitL xs) :
    Calls Tryd.prog 20 #[v] w (fun e w' => ∃ r, e = .returned r ∧ RdE 12 EP w' (Since8 w w') r xs ∧ New w w') := by
  obtain ⟨a, cap, rfl, hat⟩ := insR_at hr
  have HAT := hid hat
  have HF := hid hf
  have hlen : xs.length ≤ 60 := hf.1
  clear hr hat hf
  go_enter Tryd.func20, Tryd.ntmps20
  go_wp2_with fail
  go_loopw [3, 4] (fun b c wr => ∃ i : Nat, c = .int .i64 i ∧ i ≤ xs.length ∧ OwE 93 12 EP (fun k => w.heap.size ≤ k) wr b (xs.take i) ∧ New w wr ∧ Fresh w b) (fun _ c _ => xs.length - (intOf c).toNat)
  case atStart => exact ⟨0, rfl, by omega, OwE.nil, Upd.refl _ _, fun k h => by cases h⟩
  case round =>
    obtain ⟨i, rfl, hi1, how, hnw, hfr⟩ := hrel
    have HFR := hid hfr
    have HN := hid hnw
    by_cases hi : i < xs.length
    · obtain ⟨b, o, l, rfl, hc, hl, -⟩ := HAT.out i hi
      obtain ⟨k0, k1, k2, k3, k4, k5, k6, k7, k8, k9, k10, k11⟩ := at12R (hc.new hnw)
      have hg2 : (xs.take i).length ≤ 60 := by simp; omega
      have HG : Hid (xs.take (i + 1) = xs.take i ++ [xs[i]]) := by show _ = _; rw [List.take_add_one, List.getElem?_eq_getElem hi]; rfl
      have hfx := HF.out.2 _ (List.getElem_mem hi)
      have HC := hid (own_any xs[i] l wr (hl.new hnw) (by have := hfx.1; omega) (by have := hfx.2.2; omega))
      obtain ⟨al, cl, rfl⟩ := hl.shape
      generalize xs[i] = m at *
      generalize hpe : xs.take i = pre at *
      obtain ⟨ab, cb, rfl⟩ := how.shape
      have HOW := hid how
      obtain ⟨M, hM⟩ : ∃ M : Ins, M = m := ⟨_, rfl⟩
      have HM := hid hM
      obtain ⟨p, c, k, t, i', x, y, li, n, raw, lane, ty⟩ := m
      unfold OwnP rI pI at HC
      simp only at k0 k1 k2 k3 k4 k5 k6 k7 k8 k9 k10 k11 HC
      clear hc hl hnw how hfr hpe hfx hM
      go_wp2_with fail
      refine HC.out.mono ?_
      rintro e w2 ⟨l', u', rfl, hl2, hu2, hn2, hlf, huf, hll, hul⟩
      have hlt := HOW.out.lt
      have ho2 := HOW.out.new EP.ok hn2
      have HRW : Hid (∀ w3, New w2 w3 → EP w3 (Off (fun k => w.heap.size ≤ k) w3 (.slice ab pre.length cb)) M [.int .u8 p, .int .u32 c, .int .i64 k, .int .u8 t, .int .u32 i', .int .u32 x, .int .u32 y, l', .int .i64 n, .string raw, .int .u8 lane, u']) := by
        show ∀ w3, _
        intro w3 hn3
        rw [HM.out]
        refine ⟨l', u', rfl, hl2.new hn3, hu2.new hn3, fun k hk => ?_, fun k hk => ?_⟩
        · exact Off.mk (Nat.lt_of_lt_of_le (hll k hk) hn3.size) hlt (hlf k hk) (Nat.le_trans HN.out.size (hlf k hk))
        · exact Off.mk (Nat.lt_of_lt_of_le (hul k hk) hn3.size) hlt (huf k hk) (Nat.le_trans HN.out.size (huf k hk))
      obtain ⟨a1, c1, rfl⟩ := hl2.shape
      obtain ⟨a2, c2, rfl⟩ := hu2.shape
      have HO2 := hid ho2
      have HN2 := hid (New.trans HN.out hn2)
      clear k0 k1 k2 k3 k4 k5 k6 k7 k8 k9 k10 k11 HC hl2 hu2 hn2 hlf huf hll hul hlt ho2 HOW
      go_wp2_with (at_builtin; refine hold ?_)
      refine held_appendE EP.ok 50 93 12 112 _ infoIn Tryd.underlying50 rfl (by decide) (.tmp 11) (.tmp 17) rfl rfl _ pre rfl HO2.out M [.int .u8 p, .int .u32 c, .int .i64 k, .int .u8 t, .int .u32 i', .int .u32 x, .int .u32 y, .slice a1 li.length c1, .int .i64 n, .string raw, .int .u8 lane, .slice a2 (lb ty).length c2] (HRW.out _ (Upd.refl _ _)) rfl rfl (by simp [Value.oneCell']) (by unfold maxLen; omega) (by omega) ?_
      intro v' w' ho' ha
      have HP := hid ho'
      have HN3 := hid (Upd.newAdds HN2.out HFR.out ha)
      have HF3 := hid (Fresh.adds HFR.out HN2.out.size ha)
      clear ho' ha HRW HO2
      go_wp2_with fail
      go_roundw
      case rel => exact ⟨i + 1, by go_num, by omega, by rw [HG.out, ← HM.out]; exact HP.out, HN3.out, HF3.out⟩
      case measure => simp [intOf]; omega
    · have e : i = xs.length := by omega
      subst e
      rw [List.take_length] at how
      have HO := hid how
      clear how hnw hfr
      obtain ⟨ab, cb, rfl⟩ := HO.out.shape
      go_wp2_with fail
      go_ret
      refine ⟨_, rfl, RdE.mono EP.ok (HO.out.rd EP.ok) ?_, HN.out⟩
      rintro k ⟨h1, h2 | h2⟩
      · exact ⟨h2, h1⟩
      · exact ⟨HFR.out k h2, h1⟩
end Go.Proofs.YtbllpajibhiobaaDoor

namespace Go.Proofs.YtbllpajibhiobaaDoor
open Go.RowKit Go.Proofs.Leb Go.Proofs.Own
set_option maxRecDepth 100000
set_option maxHeartbeats 4000000

def isOp (k : Int) (p c : Int) : Bool := decide (p = 0 ∧ c = k)
def opensV (p c : Int) : Bool := decide (p = 0 ∧ (c = 2 ∨ c = 3 ∨ c = 4))
def mayV (n : List UInt8) (p c : Int) : Bool := if isOp 11 p c then decide (0 < n.length) else if isOp 5 p c then decide (n.getLast? = some 4) else true
def behV (n : List UInt8) (p c : Int) : List UInt8 := if opensV p c then n ++ [UInt8.ofNat c.toNat] else if isOp 11 p c then n.dropLast else if isOp 5 p c then n.dropLast ++ [5] else n
theorem isOp_t {k p c : Int} (h : p = 0 ∧ c = k) : isOp k p c = true := decide_eq_true h
theorem isOp_f {k p c : Int} (h : ¬ (p = 0 ∧ c = k)) : isOp k p c = false := decide_eq_false h
def OpP (k : Int) (w : World) (e : Ending) (w' : World) : Prop := e = .returned (.agg #[.int .u8 0, .int .u32 k]) ∧ New w w'
theorem end_any (w : World) : Calls Tryd.prog 44 #[] w (OpP 11 w) := by
  go_enter Tryd.func44, Tryd.ntmps44
  go_wp2_with fail
  exact ret_agg rfl Tryd.underlying87 rfl w.heap.size #[.int .u8 0, .int .u32 11] 87 (by kernel_rfl) rfl rfl (hp_new rfl) ⟨rfl, (Upd.refl _ _).alloc _⟩
theorem elses_any (w : World) : Calls Tryd.prog 57 #[] w (OpP 5 w) := by
  go_enter Tryd.func57, Tryd.ntmps57
  go_wp2_with fail
  exact ret_agg rfl Tryd.underlying87 rfl w.heap.size #[.int .u8 0, .int .u32 5] 87 (by kernel_rfl) rfl rfl (hp_new rfl) ⟨rfl, (Upd.refl _ _).alloc _⟩
theorem opens_any (p c : Int) (w : World) : Calls Tryd.prog 58 #[.agg #[.int .u8 p, .int .u32 c]] w (IsNew (opensV p c) w) := by
  have HN := hid (fun o => (Upd.refl (fun _ => False) w).alloc o)
  by_cases hp : p = 0
  · subst hp
    by_cases h2 : c = 2
    · subst h2
      go_enter Tryd.func58, Tryd.ntmps58
      go_wp2_with fail
      go_ret
      exact ⟨rfl, HN.out _⟩
    · have g2 : (c == 2) = false := beq_eq_false_iff_ne.2 h2
      by_cases h3 : c = 3
      · subst h3
        go_enter Tryd.func58, Tryd.ntmps58
        go_wp2_with fail
        go_ret
        exact ⟨rfl, HN.out _⟩
      · have g3 : (c == 3) = false := beq_eq_false_iff_ne.2 h3
        have e : opensV 0 c = (c == 4) := by
          by_cases h4 : c = 4
          · subst h4; rfl
          · rw [beq_eq_false_iff_ne.2 h4]
            exact decide_eq_false (fun h => by omega)
        rw [e]
        clear h2 h3 e
        go_enter Tryd.func58, Tryd.ntmps58
        go_wp2_with fail
        all_goals go_ret
        all_goals exact ⟨rfl, HN.out _⟩
  · have g : (p == 0) = false := beq_eq_false_iff_ne.2 hp
    rw [show opensV p c = false from decide_eq_false (fun h => hp h.1)]
    clear hp
    go_enter Tryd.func58, Tryd.ntmps58
    go_wp2_with fail
    go_ret
    exact ⟨rfl, HN.out _⟩
theorem eq_op {p c k : Int} : ((p == 0) && (c == k)) = isOp k p c := by
  unfold isOp
  rw [Bool.eq_iff_iff]
  simp
theorem may_any (v : Value) (bs : List UInt8) (p c : Int) (w : World) (hb : Rd w v bs) (hl : bs.length ≤ 1000000000000) : Calls Tryd.prog 43 #[v, .agg #[.int .u8 p, .int .u32 c]] w (IsNew (mayV bs p c) w) := by
  have hp : Tryd.prog.stoodInHeld 87 = false := by kernel_rfl
  have hg : Tryd.prog.eqGuardType Tryd.prog.depth 87 = false := by kernel_rfl
  obtain ⟨a, cap, rfl, hcap, hn, hcell⟩ := hb
  have HC := hid hcell
  have HN := hid (fun o => (Upd.refl (fun _ => False) w).alloc o)
  have HE := hid (fun w => end_any w)
  have HL := hid (fun w => elses_any w)
  clear hcell hn
  unfold OpP at *
  by_cases h1 : p = 0 ∧ c = 11
  · obtain ⟨rfl, rfl⟩ := h1
    rw [show mayV bs 0 11 = decide (0 < bs.length) from rfl]
    go_enter Tryd.func43, Tryd.ntmps43
    go_wp2_with fail
    refine (HE.out _).mono ?_
    rintro e w1 ⟨rfl, hn⟩
    have HN1 := hid (New.trans (HN.out _) hn)
    clear hn
    go_wp2_with fail
    go_ret
    exact ⟨by simp, HN1.out⟩
  · have i1 : isOp 11 p c = false := isOp_f h1
    by_cases h2 : p = 0 ∧ c = 5
    · obtain ⟨rfl, rfl⟩ := h2
      rw [show mayV bs 0 5 = decide (bs.getLast? = some 4) from rfl]
      rcases Nat.eq_zero_or_pos bs.length with h0 | h0
      · have e0 : bs = [] := List.eq_nil_of_length_eq_zero h0
        subst e0
        go_enter Tryd.func43, Tryd.ntmps43
        go_wp2_with fail
        refine (HE.out _).mono ?_
        rintro e w1 ⟨rfl, hn⟩
        have HN1 := hid (New.trans (HN.out _) hn)
        clear hn
        go_wp2_with fail
        refine (HL.out _).mono ?_
        rintro e w2 ⟨rfl, hn⟩
        have HN2 := hid (New.trans HN1.out hn)
        clear hn
        go_wp2_with fail
        go_ret
        exact ⟨by simp, HN2.out⟩
      · obtain ⟨b, o, rfl, hc⟩ := HC.out (List.length_pos_iff.1 h0)
        have hx := hc (bs.length - 1) (by omega)
        have hlast : bs.getLast? = some (bs[bs.length - 1]'(by omega)) := by rw [List.getLast?_eq_getElem?, List.getElem?_eq_getElem (by omega)]
        rw [hlast]
        generalize bs[bs.length - 1]'(by omega) = x at *
        have HX : Hid (∀ w', New w w' → w'.cell? ⟨b, o + (bs.length - 1), none⟩ = some (.int .u8 (x.toNat : Nat))) := fun w' h => h.cell hx (fun h => h)
        clear hc hx hlast HC
        generalize bs.length = len at *
        go_enter Tryd.func43, Tryd.ntmps43
        go_wp2_with fail
        refine (HE.out _).mono ?_
        rintro e w1 ⟨rfl, hn⟩
        have HN1 := hid (New.trans (HN.out _) hn)
        clear hn
        go_wp2_with fail
        refine (HL.out _).mono ?_
        rintro e w2 ⟨rfl, hn⟩
        have HN2 := hid (New.trans HN1.out hn)
        have c0 := HX.out _ HN2.out
        have e1 : ((len : Int) - 1).toNat = len - 1 := by omega
        clear hn
        go_wp2_with fail
        go_ret
        have e4 : (((x.toNat : Nat) : Int) == 4) = decide (some x = some 4) := by
          rw [Bool.eq_iff_iff]
          simp only [beq_iff_eq, decide_eq_true_eq, Option.some.injEq]
          rw [← UInt8.toNat_inj, show (4 : UInt8).toNat = 4 from rfl]
          omega
        exact ⟨by rw [← e4]; rfl, HN2.out⟩
    · have i2 : isOp 5 p c = false := isOp_f h2
      rw [show mayV bs p c = true by unfold mayV; rw [i1, i2]; rfl]
      by_cases h0 : p = 0
      · subst h0
        have g1 : (c == 11) = false := beq_eq_false_iff_ne.2 fun e => h1 ⟨rfl, e⟩
        have g2 : (c == 5) = false := beq_eq_false_iff_ne.2 fun e => h2 ⟨rfl, e⟩
        have g3 : (c = 11) = False := eq_false fun e => h1 ⟨rfl, e⟩
        have g4 : (c = 5) = False := eq_false fun e => h2 ⟨rfl, e⟩
        clear h1 h2 i1 i2
        go_enter Tryd.func43, Tryd.ntmps43
        go_wp2_with fail
        refine (HE.out _).mono ?_
        rintro e w1 ⟨rfl, hn⟩
        have HN1 := hid (New.trans (HN.out _) hn)
        clear hn
        go_wp2_with fail
        refine (HL.out _).mono ?_
        rintro e w2 ⟨rfl, hn⟩
        have HN2 := hid (New.trans HN1.out hn)
        clear hn
        go_wp2_with fail
        go_ret
        exact ⟨rfl, HN2.out⟩
      · have g1 : (p == 0) = false := beq_eq_false_iff_ne.2 h0
        have g2 : (p = 0) = False := eq_false h0
        clear h1 h2 i1 i2 h0
        go_enter Tryd.func43, Tryd.ntmps43
        go_wp2_with fail
        refine (HE.out _).mono ?_
        rintro e w1 ⟨rfl, hn⟩
        have HN1 := hid (New.trans (HN.out _) hn)
        clear hn
        go_wp2_with fail
        refine (HL.out _).mono ?_
        rintro e w2 ⟨rfl, hn⟩
        have HN2 := hid (New.trans HN1.out hn)
        clear hn
        go_wp2_with fail
        go_ret
        exact ⟨rfl, HN2.out⟩
/-- the first ones of a slice of bytes that is owned -/
theorem Bytes.cut {w : World} {a : Option Addr} {n c : Nat} {bs : List UInt8} (h : Bytes w (.slice a n c) bs) (k : Nat) (hk : k ≤ bs.length) (h0 : 0 < bs.length) : Bytes w (.slice a k c) (bs.take k) := by
  obtain ⟨h1, h2⟩ := h
  rcases h2 with ⟨e, hn⟩ | ⟨g, cap, cur, e, hb, hg, hnc, hcm, hcs, ht⟩
  · omega
  · cases e
    refine ⟨by simp, .inr ⟨g, c, cur, ?_, hb, hg, ?_, hcm, hcs, ?_⟩⟩
    · congr 1
      simp
      omega
    · simp
      omega
    · have e2 : cur.toList.take bs.length = bs.map cb := by simpa using ht
      rw [show (bs.take k).length * 1 = min k bs.length by simp, List.map_take, ← e2, List.take_take]
theorem Bytes.set {w : World} {g n c : Nat} {bs : List UInt8} (h : Bytes w (.slice (some ⟨g, 0, none⟩) n c) bs) (i : Nat) (x : UInt8) : Bytes (w.setCell ⟨g, i, none⟩ (.int .u8 (x.toNat : Nat))) (.slice (some ⟨g, 0, none⟩) n c) (bs.set i x) := by
  obtain ⟨h1, h2⟩ := h
  rcases h2 with ⟨e, hn⟩ | ⟨g, cap, cur, e, hb, hg, hnc, hcm, hcs, ht⟩
  · cases e
  · cases e
    refine ⟨by simp, .inr ⟨g, c, cur.setIfInBounds i (.int .u8 (x.toNat : Nat)), ?_, hb, hp_set hg i _, by simpa using hnc, hcm, by simpa using hcs, ?_⟩⟩
    · simp
    · have e2 : cur.toList.take bs.length = bs.map cb := by simpa using ht
      rw [show (bs.set i x).length * 1 = bs.length by simp, List.map_set, ← e2]
      simp only [Array.toList_setIfInBounds]
      rw [List.take_set]
      rfl
theorem Bytes.block {w : World} {v : Value} {bs : List UInt8} (h : Bytes w v bs) (h0 : 0 < bs.length) : ∃ g cap, v = .slice (some ⟨g, 0, none⟩) bs.length cap ∧ bs.length ≤ cap ∧ (∀ i, w.frozen? ⟨g, i, none⟩ = false) ∧ ∀ i (hi : i < bs.length), w.cell? ⟨g, i, none⟩ = some (.int .u8 (bs[i].toNat : Nat)) := by
  have hr := h.rd
  obtain ⟨h1, h2⟩ := h
  rcases h2 with ⟨e, hn⟩ | ⟨g, cap, cur, rfl, hb, hg, hnc, hcm, hcs, ht⟩
  · omega
  · refine ⟨g, cap, rfl, hnc, fun i => by simp [World.frozen?, hg], fun i hi => ?_⟩
    obtain ⟨a, cap', e, _, _, hc⟩ := hr
    cases e
    obtain ⟨b, o, e, hc⟩ := hc (List.length_pos_iff.1 h0)
    cases e
    simpa [cb] using hc i hi
end Go.Proofs.YtbllpajibhiobaaDoor

namespace Go.Proofs.YtbllpajibhiobaaDoor
open Go.RowKit Go.Proofs.Leb Go.Proofs.Own
set_option maxRecDepth 100000
set_option maxHeartbeats 4000000

theorem last_set {bs : List UInt8} (h : 0 < bs.length) {x : UInt8} : bs.dropLast ++ [x] = bs.set (bs.length - 1) x := by
  apply List.ext_getElem?
  intro i
  rw [List.getElem?_set]
  by_cases hi : bs.length - 1 = i
  · subst hi
    rw [if_pos rfl, if_pos (by omega), List.getElem?_append_right (by simp)]
    simp
  · rw [if_neg hi]
    by_cases h2 : i < bs.length - 1
    · rw [List.getElem?_append_left (by simpa using h2), List.getElem?_dropLast, if_pos h2]
    · rw [List.getElem?_eq_none (by simp; omega), List.getElem?_eq_none (by omega)]
theorem Bytes.slice {w : World} {v : Value} {bs : List UInt8} (h : Bytes w v bs) : ∃ a n c, v = .slice a n c := by
  obtain ⟨_, ⟨rfl, _⟩ | ⟨g, cap, cur, rfl, _⟩⟩ := h
  · exact ⟨_, _, _, rfl⟩
  · exact ⟨_, _, _, rfl⟩
theorem behind_any (v : Value) (bs : List UInt8) (p c : Int) (w : World) (hb : Bytes w v bs) (hl : bs.length ≤ 1000000) (c0 : 0 ≤ c) (hm : mayV bs p c = true) :
    Calls Tryd.prog 46 #[v, .agg #[.int .u8 p, .int .u32 c]] w (Post w v (behV bs p c)) := by
  have hp : Tryd.prog.stoodInHeld 87 = false := by kernel_rfl
  have hg : Tryd.prog.eqGuardType Tryd.prog.depth 87 = false := by kernel_rfl
  have HE := hid (fun w => end_any w)
  have HL := hid (fun w => elses_any w)
  have HO := hid (fun w => opens_any p c w)
  have hN := (Upd.refl (fun _ => False) w).alloc (.cells #[.int .u8 p, .int .u32 c] 87)
  have HB := hid (hb.new hN)
  have HN := hid hN
  have HZ : Hid ((w.alloc (.cells #[.int .u8 p, .int .u32 c] 87)).heap[w.heap.size]? = some (.cells #[.int .u8 p, .int .u32 c] 87)) := hp_new rfl
  clear hb hN
  unfold OpP at *
  by_cases ho : p = 0 ∧ (c = 2 ∨ c = 3 ∨ c = 4)
  · have ho2 : opensV p c = true := decide_eq_true ho
    rw [ho2] at HO
    rw [show behV bs p c = bs ++ [UInt8.ofNat c.toNat] by unfold behV; rw [if_pos ho2]]
    have hc : c % 256 = c := by omega
    have hx : c = ((UInt8.ofNat c.toNat).toNat : Nat) := by rw [u8_of _ (by omega)]; omega
    have HX := hid hx
    clear hm ho2 hx ho
    go_enter Tryd.func46, Tryd.ntmps46
    go_upto_region 1 with fail
    generalize w.alloc (.cells #[.int .u8 p, .int .u32 c] 87) = w0 at *
    have z0 : w0.cell? ⟨w.heap.size, 0, none⟩ = some (.int .u8 p) := cellAt HZ.out 0 rfl
    have z1 : w0.cell? ⟨w.heap.size, 1, none⟩ = some (.int .u32 c) := cellAt HZ.out 1 rfl
    go_wp2_with fail
    refine (HO.out _).mono ?_
    rintro e w1 ⟨rfl, hn⟩
    have HN1 := hid (New.trans HN.out hn)
    have HB1 := hid (HB.out.new hn)
    have HZ1 := hid (hp1 HZ.out hn)
    have z1 : w1.cell? ⟨w.heap.size, 1, none⟩ = some (.int .u32 c) := cellAt HZ1.out 1 rfl
    clear hn z0
    go_wp2_with (at_builtin; refine hold ?_)
    refine held_append1 116 5 1 (.int .u8 0) info5 Tryd.underlying116 rfl (.tmp 8) (.tmp 12) rfl rfl 0 v _ _ rfl HB1.out _ rfl rfl (by unfold maxLen; omega) (by omega) (Nat.zero_le _) ?_
    intro v' w' h1 h2
    have HB2 := hid (Bytes.one _ _ HX.out h1)
    have HA2 := hid (Adds.ahead HN1.out h2)
    clear h1 h2 z1
    go_wp2_with fail
    go_ret
    exact ⟨_, rfl, HB2.out, HA2.out⟩
  · have ho2 : opensV p c = false := decide_eq_false ho
    rw [ho2] at HO
    by_cases h1 : p = 0 ∧ c = 11
    · obtain ⟨rfl, rfl⟩ := h1
      have h0 : 0 < bs.length := by
        rw [show mayV bs 0 11 = decide (0 < bs.length) from rfl] at hm
        exact of_decide_eq_true hm
      rw [show behV bs 0 11 = bs.dropLast from rfl]
      obtain ⟨g, cap, rfl, hcap, -, -⟩ := Bytes.block HB.out h0
      clear ho ho2 hm
      go_enter Tryd.func46, Tryd.ntmps46
      go_upto_region 1 with fail
      generalize w.alloc (.cells #[.int .u8 0, .int .u32 11] 87) = w0 at *
      have z0 : w0.cell? ⟨w.heap.size, 0, none⟩ = some (.int .u8 0) := cellAt HZ.out 0 rfl
      have z1 : w0.cell? ⟨w.heap.size, 1, none⟩ = some (.int .u32 11) := cellAt HZ.out 1 rfl
      go_wp2_with fail
      refine (HO.out _).mono ?_
      rintro e w1 ⟨rfl, hn⟩
      have HN1 := hid (New.trans HN.out hn)
      have HB1 := hid (HB.out.new hn)
      have HZ1 := hid (hp1 HZ.out hn)
      clear hn z0 z1
      go_wp2_with fail
      have hn : New w1 w1.drew := (Upd.refl _ _).drew
      refine wp_region_noPanic ?_
      refine wp_region_held_drew (S := (New w1)) (by kernel_rfl) (by first | exact hn | exact (Upd.refl _ _).drew | exact Upd.drew (by assumption)) (fun hn => ?_)
      generalize w1.drew = wd at *
      refine wpAnyH_take (i := 0) (oi := { dst := some 15, op := Op.load 87 (Operand.tmp 3), type := 87, pos := "expr.go:114", after := #[], guard := none }) (v := ?v15x1) rfl (by kernel_rfl) (by kernel_rfl) (by kernel_rfl) (fun _ _ _ h => h) (Or.inl ⟨by rfl, ?y15x1⟩) hn ?r15x1
      case y15x1 => (intro wS hS; have c0 : wS.cell? ⟨w.heap.size, 0, none⟩ = some (.int .u8 0) := cellAt (hp1 HZ1.out hS) 0 rfl; have c1 : wS.cell? ⟨w.heap.size, 1, none⟩ = some (.int .u32 11) := cellAt (hp1 HZ1.out hS) 1 rfl; (try go_simp); (try with_reducible rfl))
      try simp only [Act.put, List.setIfInBounds_toArray, List.set_cons_zero, List.set_cons_succ]
      refine wpAnyH_ready (rs := [1]) (by kernel_rfl) (by simp) ?_
      refine AllReadyH.cons (o := { dst := some 16, op := Op.call { callee := Callee.value (Operand.func 44), args := #[], argTypes := #[] }, type := 87, pos := "expr.go:114", after := #[], guard := none }) rfl (fun K hK => ?_) AllReadyH.nil
      go_simp
      refine (HE.out _).mono ?_
      rintro e wq ⟨rfl, hnq⟩
      go_wp2_with fail
      have hn := hn.trans hnq
      refine hK.out _ _ (by first | exact hn | exact Upd.alloc hn _) (fun hn => ?_)
      clear hK K
      try simp only [Act.put, List.setIfInBounds_toArray, List.set_cons_zero, List.set_cons_succ]
      refine wpAnyH_take (i := 2) (oi := { dst := some 17, op := Op.binOp BinOp.eql 87 (Operand.tmp 15) (Operand.tmp 16) 87, type := 4, pos := "expr.go:114", after := #[{ on := 0, ground := Ground.data }, { on := 1, ground := Ground.data }], guard := none }) (v := ?v15x2) rfl (by kernel_rfl) (by kernel_rfl) (by kernel_rfl) (fun _ _ _ h => h) (Or.inl ⟨by rfl, ?y15x2⟩) hn ?r15x2
      case y15x2 => (intro wS hS; go_simp; (try go_simp); (try with_reducible rfl))
      try simp only [Act.put, List.setIfInBounds_toArray, List.set_cons_zero, List.set_cons_succ]
      refine wpAnyH_take (i := 3) (oi := { dst := some 14, op := Op.assign (Operand.tmp 17), type := 4, pos := "expr.go:114", after := #[{ on := 2, ground := Ground.data }, { on := 1, ground := Ground.chain }], guard := none }) (v := ?v15x3) rfl (by kernel_rfl) (by kernel_rfl) (by kernel_rfl) (fun _ _ _ h => h) (Or.inl ⟨by rfl, ?y15x3⟩) hn ?r15x3
      case y15x3 => (intro wS hS; (try go_simp); (try with_reducible rfl))
      try simp only [Act.put, List.setIfInBounds_toArray, List.set_cons_zero, List.set_cons_succ]
      refine wpAnyH_done (by kernel_rfl) ?_ _
      refine NoPanic.normal ?_
      have HN2 := hid (New.trans HN1.out hn)
      have HB2 := hid ((HB1.out.new hn).cut (bs.length - 1) (by omega) h0)
      clear hn
      (have e1 : ((bs.length : Int) - 1).toNat = bs.length - 1 := by omega)
      (have e2 : (bs.length : Int) - 1 ≤ (cap : Int) := by omega)
      go_wp2_with fail
      go_ret
      exact ⟨_, rfl, by rw [List.dropLast_eq_take]; exact HB2.out, HN2.out.upd, .inl rfl⟩
    · by_cases h2 : p = 0 ∧ c = 5
      · obtain ⟨rfl, rfl⟩ := h2
        have h0 : 0 < bs.length := by
          rw [show mayV bs 0 5 = decide (bs.getLast? = some 4) from rfl] at hm
          have := of_decide_eq_true hm
          rcases bs with _ | ⟨x, r⟩
          · cases this
          · simp
        rw [show behV bs 0 5 = bs.dropLast ++ [5] from rfl]
        obtain ⟨g, cap, rfl, hcap, -, -⟩ := Bytes.block HB.out h0
        clear ho ho2 hm h1
        go_enter Tryd.func46, Tryd.ntmps46
        go_upto_region 1 with fail
        generalize w.alloc (.cells #[.int .u8 0, .int .u32 5] 87) = w0 at *
        have z0 : w0.cell? ⟨w.heap.size, 0, none⟩ = some (.int .u8 0) := cellAt HZ.out 0 rfl
        have z1 : w0.cell? ⟨w.heap.size, 1, none⟩ = some (.int .u32 5) := cellAt HZ.out 1 rfl
        go_wp2_with fail
        refine (HO.out _).mono ?_
        rintro e w1 ⟨rfl, hn⟩
        have HN1 := hid (New.trans HN.out hn)
        have HB1 := hid (HB.out.new hn)
        have HZ1 := hid (hp1 HZ.out hn)
        clear hn z0 z1
        go_wp2_with fail
        have hn : New w1 w1.drew := (Upd.refl _ _).drew
        refine wp_region_noPanic ?_
        refine wp_region_held_drew (S := (New w1)) (by kernel_rfl) (by first | exact hn | exact (Upd.refl _ _).drew | exact Upd.drew (by assumption)) (fun hn => ?_)
        generalize w1.drew = wd at *
        refine wpAnyH_take (i := 0) (oi := { dst := some 15, op := Op.load 87 (Operand.tmp 3), type := 87, pos := "expr.go:114", after := #[], guard := none }) (v := ?v16x1) rfl (by kernel_rfl) (by kernel_rfl) (by kernel_rfl) (fun _ _ _ h => h) (Or.inl ⟨by rfl, ?y16x1⟩) hn ?r16x1
        case y16x1 => (intro wS hS; have c0 : wS.cell? ⟨w.heap.size, 0, none⟩ = some (.int .u8 0) := cellAt (hp1 HZ1.out hS) 0 rfl; have c1 : wS.cell? ⟨w.heap.size, 1, none⟩ = some (.int .u32 5) := cellAt (hp1 HZ1.out hS) 1 rfl; (try go_simp); (try with_reducible rfl))
        try simp only [Act.put, List.setIfInBounds_toArray, List.set_cons_zero, List.set_cons_succ]
        refine wpAnyH_ready (rs := [1]) (by kernel_rfl) (by simp) ?_
        refine AllReadyH.cons (o := { dst := some 16, op := Op.call { callee := Callee.value (Operand.func 44), args := #[], argTypes := #[] }, type := 87, pos := "expr.go:114", after := #[], guard := none }) rfl (fun K hK => ?_) AllReadyH.nil
        go_simp
        refine (HE.out _).mono ?_
        rintro e wq ⟨rfl, hnq⟩
        go_wp2_with fail
        have hn := hn.trans hnq
        refine hK.out _ _ (by first | exact hn | exact Upd.alloc hn _) (fun hn => ?_)
        clear hK K
        try simp only [Act.put, List.setIfInBounds_toArray, List.set_cons_zero, List.set_cons_succ]
        refine wpAnyH_take (i := 2) (oi := { dst := some 17, op := Op.binOp BinOp.eql 87 (Operand.tmp 15) (Operand.tmp 16) 87, type := 4, pos := "expr.go:114", after := #[{ on := 0, ground := Ground.data }, { on := 1, ground := Ground.data }], guard := none }) (v := ?v16x2) rfl (by kernel_rfl) (by kernel_rfl) (by kernel_rfl) (fun _ _ _ h => h) (Or.inl ⟨by rfl, ?y16x2⟩) hn ?r16x2
        case y16x2 => (intro wS hS; go_simp; (try go_simp); (try with_reducible rfl))
        try simp only [Act.put, List.setIfInBounds_toArray, List.set_cons_zero, List.set_cons_succ]
        refine wpAnyH_take (i := 3) (oi := { dst := some 14, op := Op.assign (Operand.tmp 17), type := 4, pos := "expr.go:114", after := #[{ on := 2, ground := Ground.data }, { on := 1, ground := Ground.chain }], guard := none }) (v := ?v16x3) rfl (by kernel_rfl) (by kernel_rfl) (by kernel_rfl) (fun _ _ _ h => h) (Or.inl ⟨by rfl, ?y16x3⟩) hn ?r16x3
        case y16x3 => (intro wS hS; (try go_simp); (try with_reducible rfl))
        try simp only [Act.put, List.setIfInBounds_toArray, List.set_cons_zero, List.set_cons_succ]
        refine wpAnyH_done (by kernel_rfl) ?_ _
        refine NoPanic.normal ?_
        obtain ⟨w3, hw3⟩ : ∃ w3, w3 = wq := ⟨_, rfl⟩
        have HN3 := hid hn
        clear hn
        go_wp2_with fail
        have hn := HN3.out.drew
        refine wp_region_noPanic ?_
        refine wp_region_held_drew (S := (New w1)) (by kernel_rfl) (by first | exact hn | exact (Upd.refl _ _).drew | exact Upd.drew (by assumption)) (fun hn => ?_)
        generalize wq.drew = we at *
        refine wpAnyH_take (i := 0) (oi := { dst := some 24, op := Op.load 87 (Operand.tmp 3), type := 87, pos := "expr.go:116", after := #[], guard := none }) (v := ?v17x1) rfl (by kernel_rfl) (by kernel_rfl) (by kernel_rfl) (fun _ _ _ h => h) (Or.inl ⟨by rfl, ?y17x1⟩) hn ?r17x1
        case y17x1 => (intro wS hS; have c0 : wS.cell? ⟨w.heap.size, 0, none⟩ = some (.int .u8 0) := cellAt (hp1 HZ1.out hS) 0 rfl; have c1 : wS.cell? ⟨w.heap.size, 1, none⟩ = some (.int .u32 5) := cellAt (hp1 HZ1.out hS) 1 rfl; (try go_simp); (try with_reducible rfl))
        try simp only [Act.put, List.setIfInBounds_toArray, List.set_cons_zero, List.set_cons_succ]
        refine wpAnyH_ready (rs := [1]) (by kernel_rfl) (by simp) ?_
        refine AllReadyH.cons (o := { dst := some 25, op := Op.call { callee := Callee.value (Operand.func 57), args := #[], argTypes := #[] }, type := 87, pos := "expr.go:116", after := #[], guard := none }) rfl (fun K hK => ?_) AllReadyH.nil
        go_simp
        refine (HL.out _).mono ?_
        rintro e wr ⟨rfl, hnq⟩
        go_wp2_with fail
        have hn := hn.trans hnq
        refine hK.out _ _ (by first | exact hn | exact Upd.alloc hn _) (fun hn => ?_)
        clear hK K
        try simp only [Act.put, List.setIfInBounds_toArray, List.set_cons_zero, List.set_cons_succ]
        refine wpAnyH_take (i := 2) (oi := { dst := some 26, op := Op.binOp BinOp.eql 87 (Operand.tmp 24) (Operand.tmp 25) 87, type := 4, pos := "expr.go:116", after := #[{ on := 0, ground := Ground.data }, { on := 1, ground := Ground.data }], guard := none }) (v := ?v17x2) rfl (by kernel_rfl) (by kernel_rfl) (by kernel_rfl) (fun _ _ _ h => h) (Or.inl ⟨by rfl, ?y17x2⟩) hn ?r17x2
        case y17x2 => (intro wS hS; go_simp; (try go_simp); (try with_reducible rfl))
        try simp only [Act.put, List.setIfInBounds_toArray, List.set_cons_zero, List.set_cons_succ]
        refine wpAnyH_take (i := 3) (oi := { dst := some 23, op := Op.assign (Operand.tmp 26), type := 4, pos := "expr.go:116", after := #[{ on := 2, ground := Ground.data }, { on := 1, ground := Ground.chain }], guard := none }) (v := ?v17x3) rfl (by kernel_rfl) (by kernel_rfl) (by kernel_rfl) (fun _ _ _ h => h) (Or.inl ⟨by rfl, ?y17x3⟩) hn ?r17x3
        case y17x3 => (intro wS hS; (try go_simp); (try with_reducible rfl))
        try simp only [Act.put, List.setIfInBounds_toArray, List.set_cons_zero, List.set_cons_succ]
        refine wpAnyH_done (by kernel_rfl) ?_ _
        refine NoPanic.normal ?_
        have HN2 := hid (New.trans HN1.out hn)
        have HB2 := hid (HB1.out.new hn)
        clear hn
        obtain ⟨_, _, e3, _, hf, hc⟩ := Bytes.block HB2.out h0
        cases e3
        have e1 : ((bs.length : Int) - 1).toNat = bs.length - 1 := by omega
        have f0 := hf (bs.length - 1)
        have c0 := hc (bs.length - 1) (by omega)
        clear hf hc
        go_wp2_with fail
        go_ret
        refine ⟨_, rfl, ?_, Upd.setCell (S := fun k => some g = some k) (p := ⟨g, bs.length - 1, none⟩) HN2.out.upd (.inr rfl) _, .inl rfl⟩
        rw [last_set h0]
        exact HB2.out.set _ 5
      · have i1 : isOp 11 p c = false := isOp_f h1
        have i2 : isOp 5 p c = false := isOp_f h2
        rw [show behV bs p c = bs by unfold behV; rw [ho2, i1, i2]; rfl]
        obtain ⟨av, nv, cv, rfl⟩ := Bytes.slice HB.out
        clear i1 i2
        by_cases h0 : p = 0
        · subst h0
          have g1 : (c == 11) = false := beq_eq_false_iff_ne.2 fun e => h1 ⟨rfl, e⟩
          have g2 : (c == 5) = false := beq_eq_false_iff_ne.2 fun e => h2 ⟨rfl, e⟩
          have g3 : (c = 11) = False := eq_false fun e => h1 ⟨rfl, e⟩
          have g4 : (c = 5) = False := eq_false fun e => h2 ⟨rfl, e⟩
          clear h1 h2 ho ho2 hm
          go_enter Tryd.func46, Tryd.ntmps46
          go_upto_region 1 with fail
          generalize w.alloc (.cells #[.int .u8 0, .int .u32 c] 87) = w0 at *
          have z0 : w0.cell? ⟨w.heap.size, 0, none⟩ = some (.int .u8 0) := cellAt HZ.out 0 rfl
          have z1 : w0.cell? ⟨w.heap.size, 1, none⟩ = some (.int .u32 c) := cellAt HZ.out 1 rfl
          go_wp2_with fail
          refine (HO.out _).mono ?_
          rintro e w1 ⟨rfl, hn⟩
          have HN1 := hid (New.trans HN.out hn)
          have HB1 := hid (HB.out.new hn)
          have HZ1 := hid (hp1 HZ.out hn)
          clear hn z0 z1
          go_wp2_with fail
          have hn : New w1 w1.drew := (Upd.refl _ _).drew
          refine wp_region_noPanic ?_
          refine wp_region_held_drew (S := (New w1)) (by kernel_rfl) (by first | exact hn | exact (Upd.refl _ _).drew | exact Upd.drew (by assumption)) (fun hn => ?_)
          generalize w1.drew = wd at *
          refine wpAnyH_take (i := 0) (oi := { dst := some 15, op := Op.load 87 (Operand.tmp 3), type := 87, pos := "expr.go:114", after := #[], guard := none }) (v := ?v18x1) rfl (by kernel_rfl) (by kernel_rfl) (by kernel_rfl) (fun _ _ _ h => h) (Or.inl ⟨by rfl, ?y18x1⟩) hn ?r18x1
          case y18x1 => (intro wS hS; have c0 : wS.cell? ⟨w.heap.size, 0, none⟩ = some (.int .u8 0) := cellAt (hp1 HZ1.out hS) 0 rfl; have c1 : wS.cell? ⟨w.heap.size, 1, none⟩ = some (.int .u32 c) := cellAt (hp1 HZ1.out hS) 1 rfl; (try go_simp); (try with_reducible rfl))
          try simp only [Act.put, List.setIfInBounds_toArray, List.set_cons_zero, List.set_cons_succ]
          refine wpAnyH_ready (rs := [1]) (by kernel_rfl) (by simp) ?_
          refine AllReadyH.cons (o := { dst := some 16, op := Op.call { callee := Callee.value (Operand.func 44), args := #[], argTypes := #[] }, type := 87, pos := "expr.go:114", after := #[], guard := none }) rfl (fun K hK => ?_) AllReadyH.nil
          go_simp
          refine (HE.out _).mono ?_
          rintro e wq ⟨rfl, hnq⟩
          go_wp2_with fail
          have hn := hn.trans hnq
          refine hK.out _ _ (by first | exact hn | exact Upd.alloc hn _) (fun hn => ?_)
          clear hK K
          try simp only [Act.put, List.setIfInBounds_toArray, List.set_cons_zero, List.set_cons_succ]
          refine wpAnyH_take (i := 2) (oi := { dst := some 17, op := Op.binOp BinOp.eql 87 (Operand.tmp 15) (Operand.tmp 16) 87, type := 4, pos := "expr.go:114", after := #[{ on := 0, ground := Ground.data }, { on := 1, ground := Ground.data }], guard := none }) (v := ?v18x2) rfl (by kernel_rfl) (by kernel_rfl) (by kernel_rfl) (fun _ _ _ h => h) (Or.inl ⟨by rfl, ?y18x2⟩) hn ?r18x2
          case y18x2 => (intro wS hS; go_simp; (try go_simp); (try with_reducible rfl))
          try simp only [Act.put, List.setIfInBounds_toArray, List.set_cons_zero, List.set_cons_succ]
          refine wpAnyH_take (i := 3) (oi := { dst := some 14, op := Op.assign (Operand.tmp 17), type := 4, pos := "expr.go:114", after := #[{ on := 2, ground := Ground.data }, { on := 1, ground := Ground.chain }], guard := none }) (v := ?v18x3) rfl (by kernel_rfl) (by kernel_rfl) (by kernel_rfl) (fun _ _ _ h => h) (Or.inl ⟨by rfl, ?y18x3⟩) hn ?r18x3
          case y18x3 => (intro wS hS; (try go_simp); (try with_reducible rfl))
          try simp only [Act.put, List.setIfInBounds_toArray, List.set_cons_zero, List.set_cons_succ]
          refine wpAnyH_done (by kernel_rfl) ?_ _
          refine NoPanic.normal ?_
          obtain ⟨w3, hw3⟩ : ∃ w3, w3 = wq := ⟨_, rfl⟩
          have HN3 := hid hn
          clear hn
          go_wp2_with fail
          have hn := HN3.out.drew
          refine wp_region_noPanic ?_
          refine wp_region_held_drew (S := (New w1)) (by kernel_rfl) (by first | exact hn | exact (Upd.refl _ _).drew | exact Upd.drew (by assumption)) (fun hn => ?_)
          generalize wq.drew = we at *
          refine wpAnyH_take (i := 0) (oi := { dst := some 24, op := Op.load 87 (Operand.tmp 3), type := 87, pos := "expr.go:116", after := #[], guard := none }) (v := ?v19x1) rfl (by kernel_rfl) (by kernel_rfl) (by kernel_rfl) (fun _ _ _ h => h) (Or.inl ⟨by rfl, ?y19x1⟩) hn ?r19x1
          case y19x1 => (intro wS hS; have c0 : wS.cell? ⟨w.heap.size, 0, none⟩ = some (.int .u8 0) := cellAt (hp1 HZ1.out hS) 0 rfl; have c1 : wS.cell? ⟨w.heap.size, 1, none⟩ = some (.int .u32 c) := cellAt (hp1 HZ1.out hS) 1 rfl; (try go_simp); (try with_reducible rfl))
          try simp only [Act.put, List.setIfInBounds_toArray, List.set_cons_zero, List.set_cons_succ]
          refine wpAnyH_ready (rs := [1]) (by kernel_rfl) (by simp) ?_
          refine AllReadyH.cons (o := { dst := some 25, op := Op.call { callee := Callee.value (Operand.func 57), args := #[], argTypes := #[] }, type := 87, pos := "expr.go:116", after := #[], guard := none }) rfl (fun K hK => ?_) AllReadyH.nil
          go_simp
          refine (HL.out _).mono ?_
          rintro e wr ⟨rfl, hnq⟩
          go_wp2_with fail
          have hn := hn.trans hnq
          refine hK.out _ _ (by first | exact hn | exact Upd.alloc hn _) (fun hn => ?_)
          clear hK K
          try simp only [Act.put, List.setIfInBounds_toArray, List.set_cons_zero, List.set_cons_succ]
          refine wpAnyH_take (i := 2) (oi := { dst := some 26, op := Op.binOp BinOp.eql 87 (Operand.tmp 24) (Operand.tmp 25) 87, type := 4, pos := "expr.go:116", after := #[{ on := 0, ground := Ground.data }, { on := 1, ground := Ground.data }], guard := none }) (v := ?v19x2) rfl (by kernel_rfl) (by kernel_rfl) (by kernel_rfl) (fun _ _ _ h => h) (Or.inl ⟨by rfl, ?y19x2⟩) hn ?r19x2
          case y19x2 => (intro wS hS; go_simp; (try go_simp); (try with_reducible rfl))
          try simp only [Act.put, List.setIfInBounds_toArray, List.set_cons_zero, List.set_cons_succ]
          refine wpAnyH_take (i := 3) (oi := { dst := some 23, op := Op.assign (Operand.tmp 26), type := 4, pos := "expr.go:116", after := #[{ on := 2, ground := Ground.data }, { on := 1, ground := Ground.chain }], guard := none }) (v := ?v19x3) rfl (by kernel_rfl) (by kernel_rfl) (by kernel_rfl) (fun _ _ _ h => h) (Or.inl ⟨by rfl, ?y19x3⟩) hn ?r19x3
          case y19x3 => (intro wS hS; (try go_simp); (try with_reducible rfl))
          try simp only [Act.put, List.setIfInBounds_toArray, List.set_cons_zero, List.set_cons_succ]
          refine wpAnyH_done (by kernel_rfl) ?_ _
          refine NoPanic.normal ?_
          have HN2 := hid (New.trans HN1.out hn)
          have HB2 := hid (HB1.out.new hn)
          clear hn
          go_wp2_with fail
          go_ret
          exact ⟨_, rfl, HB2.out, HN2.out.upd, .inl rfl⟩
        · have g1 : (p == 0) = false := beq_eq_false_iff_ne.2 h0
          have g2 : (p = 0) = False := eq_false h0
          clear h0 h1 h2 ho ho2 hm
          go_enter Tryd.func46, Tryd.ntmps46
          go_upto_region 1 with fail
          generalize w.alloc (.cells #[.int .u8 p, .int .u32 c] 87) = w0 at *
          have z0 : w0.cell? ⟨w.heap.size, 0, none⟩ = some (.int .u8 p) := cellAt HZ.out 0 rfl
          have z1 : w0.cell? ⟨w.heap.size, 1, none⟩ = some (.int .u32 c) := cellAt HZ.out 1 rfl
          go_wp2_with fail
          refine (HO.out _).mono ?_
          rintro e w1 ⟨rfl, hn⟩
          have HN1 := hid (New.trans HN.out hn)
          have HB1 := hid (HB.out.new hn)
          have HZ1 := hid (hp1 HZ.out hn)
          clear hn z0 z1
          go_wp2_with fail
          have hn : New w1 w1.drew := (Upd.refl _ _).drew
          refine wp_region_noPanic ?_
          refine wp_region_held_drew (S := (New w1)) (by kernel_rfl) (by first | exact hn | exact (Upd.refl _ _).drew | exact Upd.drew (by assumption)) (fun hn => ?_)
          generalize w1.drew = wd at *
          refine wpAnyH_take (i := 0) (oi := { dst := some 15, op := Op.load 87 (Operand.tmp 3), type := 87, pos := "expr.go:114", after := #[], guard := none }) (v := ?v20x1) rfl (by kernel_rfl) (by kernel_rfl) (by kernel_rfl) (fun _ _ _ h => h) (Or.inl ⟨by rfl, ?y20x1⟩) hn ?r20x1
          case y20x1 => (intro wS hS; have c0 : wS.cell? ⟨w.heap.size, 0, none⟩ = some (.int .u8 p) := cellAt (hp1 HZ1.out hS) 0 rfl; have c1 : wS.cell? ⟨w.heap.size, 1, none⟩ = some (.int .u32 c) := cellAt (hp1 HZ1.out hS) 1 rfl; (try go_simp); (try with_reducible rfl))
          try simp only [Act.put, List.setIfInBounds_toArray, List.set_cons_zero, List.set_cons_succ]
          refine wpAnyH_ready (rs := [1]) (by kernel_rfl) (by simp) ?_
          refine AllReadyH.cons (o := { dst := some 16, op := Op.call { callee := Callee.value (Operand.func 44), args := #[], argTypes := #[] }, type := 87, pos := "expr.go:114", after := #[], guard := none }) rfl (fun K hK => ?_) AllReadyH.nil
          go_simp
          refine (HE.out _).mono ?_
          rintro e wq ⟨rfl, hnq⟩
          go_wp2_with fail
          have hn := hn.trans hnq
          refine hK.out _ _ (by first | exact hn | exact Upd.alloc hn _) (fun hn => ?_)
          clear hK K
          try simp only [Act.put, List.setIfInBounds_toArray, List.set_cons_zero, List.set_cons_succ]
          refine wpAnyH_take (i := 2) (oi := { dst := some 17, op := Op.binOp BinOp.eql 87 (Operand.tmp 15) (Operand.tmp 16) 87, type := 4, pos := "expr.go:114", after := #[{ on := 0, ground := Ground.data }, { on := 1, ground := Ground.data }], guard := none }) (v := ?v20x2) rfl (by kernel_rfl) (by kernel_rfl) (by kernel_rfl) (fun _ _ _ h => h) (Or.inl ⟨by rfl, ?y20x2⟩) hn ?r20x2
          case y20x2 => (intro wS hS; go_simp; (try go_simp); (try with_reducible rfl))
          try simp only [Act.put, List.setIfInBounds_toArray, List.set_cons_zero, List.set_cons_succ]
          refine wpAnyH_take (i := 3) (oi := { dst := some 14, op := Op.assign (Operand.tmp 17), type := 4, pos := "expr.go:114", after := #[{ on := 2, ground := Ground.data }, { on := 1, ground := Ground.chain }], guard := none }) (v := ?v20x3) rfl (by kernel_rfl) (by kernel_rfl) (by kernel_rfl) (fun _ _ _ h => h) (Or.inl ⟨by rfl, ?y20x3⟩) hn ?r20x3
          case y20x3 => (intro wS hS; (try go_simp); (try with_reducible rfl))
          try simp only [Act.put, List.setIfInBounds_toArray, List.set_cons_zero, List.set_cons_succ]
          refine wpAnyH_done (by kernel_rfl) ?_ _
          refine NoPanic.normal ?_
          obtain ⟨w3, hw3⟩ : ∃ w3, w3 = wq := ⟨_, rfl⟩
          have HN3 := hid hn
          clear hn
          go_wp2_with fail
          have hn := HN3.out.drew
          refine wp_region_noPanic ?_
          refine wp_region_held_drew (S := (New w1)) (by kernel_rfl) (by first | exact hn | exact (Upd.refl _ _).drew | exact Upd.drew (by assumption)) (fun hn => ?_)
          generalize wq.drew = we at *
          refine wpAnyH_take (i := 0) (oi := { dst := some 24, op := Op.load 87 (Operand.tmp 3), type := 87, pos := "expr.go:116", after := #[], guard := none }) (v := ?v21x1) rfl (by kernel_rfl) (by kernel_rfl) (by kernel_rfl) (fun _ _ _ h => h) (Or.inl ⟨by rfl, ?y21x1⟩) hn ?r21x1
          case y21x1 => (intro wS hS; have c0 : wS.cell? ⟨w.heap.size, 0, none⟩ = some (.int .u8 p) := cellAt (hp1 HZ1.out hS) 0 rfl; have c1 : wS.cell? ⟨w.heap.size, 1, none⟩ = some (.int .u32 c) := cellAt (hp1 HZ1.out hS) 1 rfl; (try go_simp); (try with_reducible rfl))
          try simp only [Act.put, List.setIfInBounds_toArray, List.set_cons_zero, List.set_cons_succ]
          refine wpAnyH_ready (rs := [1]) (by kernel_rfl) (by simp) ?_
          refine AllReadyH.cons (o := { dst := some 25, op := Op.call { callee := Callee.value (Operand.func 57), args := #[], argTypes := #[] }, type := 87, pos := "expr.go:116", after := #[], guard := none }) rfl (fun K hK => ?_) AllReadyH.nil
          go_simp
          refine (HL.out _).mono ?_
          rintro e wr ⟨rfl, hnq⟩
          go_wp2_with fail
          have hn := hn.trans hnq
          refine hK.out _ _ (by first | exact hn | exact Upd.alloc hn _) (fun hn => ?_)
          clear hK K
          try simp only [Act.put, List.setIfInBounds_toArray, List.set_cons_zero, List.set_cons_succ]
          refine wpAnyH_take (i := 2) (oi := { dst := some 26, op := Op.binOp BinOp.eql 87 (Operand.tmp 24) (Operand.tmp 25) 87, type := 4, pos := "expr.go:116", after := #[{ on := 0, ground := Ground.data }, { on := 1, ground := Ground.data }], guard := none }) (v := ?v21x2) rfl (by kernel_rfl) (by kernel_rfl) (by kernel_rfl) (fun _ _ _ h => h) (Or.inl ⟨by rfl, ?y21x2⟩) hn ?r21x2
          case y21x2 => (intro wS hS; go_simp; (try go_simp); (try with_reducible rfl))
          try simp only [Act.put, List.setIfInBounds_toArray, List.set_cons_zero, List.set_cons_succ]
          refine wpAnyH_take (i := 3) (oi := { dst := some 23, op := Op.assign (Operand.tmp 26), type := 4, pos := "expr.go:116", after := #[{ on := 2, ground := Ground.data }, { on := 1, ground := Ground.chain }], guard := none }) (v := ?v21x3) rfl (by kernel_rfl) (by kernel_rfl) (by kernel_rfl) (fun _ _ _ h => h) (Or.inl ⟨by rfl, ?y21x3⟩) hn ?r21x3
          case y21x3 => (intro wS hS; (try go_simp); (try with_reducible rfl))
          try simp only [Act.put, List.setIfInBounds_toArray, List.set_cons_zero, List.set_cons_succ]
          refine wpAnyH_done (by kernel_rfl) ?_ _
          refine NoPanic.normal ?_
          have HN2 := hid (New.trans HN1.out hn)
          have HB2 := hid (HB1.out.new hn)
          clear hn
          go_wp2_with fail
          go_ret
          exact ⟨_, rfl, HB2.out, HN2.out.upd, .inl rfl⟩
end Go.Proofs.YtbllpajibhiobaaDoor
