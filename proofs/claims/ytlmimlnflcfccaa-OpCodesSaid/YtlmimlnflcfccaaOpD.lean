/-
  The laws of ops: OpCodes.
-/
import Derived.Test.YtlmimlnflcfccaaOpC
import Derived.Test.YtlmimlnflcfccaaOpL
import Derived.RangeFuncFrom
namespace Go.Proofs.Ytlmimlnflcfccaa
open Go.RowKit Go.Shelf Go.Proofs.Own
attribute [local go_sem] Oper.semAt_some
set_option maxRecDepth 100000
set_option maxHeartbeats 4000000

theorem Codes_any (p : Int) (w : World) : Calls Try.prog 57 #[.int .u8 p] w fun e w' => e = .returned (.func (.func 80) #[] #[.pointer (some ⟨w.heap.size, 0, none⟩)]) ∧ w.alloc (.cells #[.int .u8 p] 5) = w' := by
  go_enter Try.func57, Try.ntmps57
  go_wp2_with fail
  go_ret
  exact ⟨rfl, rfl⟩

/-- what the call's own cells hold between two rounds -/
def CI (p most : Int) (s : Nat) (w : World) (pre : List Cd) (W : World) : Prop :=
  (W.cell? ⟨s, 0, none⟩ = some (.int .u8 p) ∧ W.cell? ⟨s + 1, 0, none⟩ = some (.int .u16 most) ∧ W.cell? ⟨s + 1 + 1, 0, none⟩ = some (.bool false) ∧ W.frozen? ⟨s + 1 + 1, 0, none⟩ = false ∧
    (∃ j : Nat, j ≤ 256 ∧ pre = upto p j ∧ W.cell? ⟨s + 1 + 1 + 1 + 1, 0, none⟩ = some (.int .u32 j)) ∧ W.frozen? ⟨s + 1 + 1 + 1 + 1, 0, none⟩ = false ∧
    W.cell? ⟨s + 1 + 1 + 1 + 1 + 1, 0, none⟩ = some (.int .i64 pre.length) ∧ W.frozen? ⟨s + 1 + 1 + 1 + 1 + 1, 0, none⟩ = false) ∧ Below s w W
/-- what they hold where a round has left -/
def CX (p : Int) (s : Nat) (w : World) (c : Code) (pre : List Cd) (W : World) : Prop :=
  (c = .ret ∧ (∃ b : Bool, W.cell? ⟨s + 1 + 1, 0, none⟩ = some (.bool b) ∧ ∀ i, i < 256 → isOp p i = true → pre = upto p (i + 1) → b = true)) ∧ Below s w W

theorem CI_own (p most : Int) (s : Nat) (w : World) (B : Nat) (hs : s ≤ w.heap.size) (hB : s ≤ B) : OwnFrom B (CI p most s w) := by
  refine OwnFrom.and ?_ (ownFrom_below hs hB)
  intro pre W W' row h hg hr
  have hr2 : ∀ r, row = some r → ∃ o : Obj, W.heap[r]? = some o ∧ o.isCells = false := fun r e => (hr r e).2
  obtain ⟨h1, h2, h3, h4, ⟨j, hj, hp, h5⟩, h6, h7, h8⟩ := h
  exact ⟨cell_kept h1 hg hr2, cell_kept h2 hg hr2, cell_kept h3 hg hr2, (frozen_kept h3 hg hr2).trans h4, ⟨j, hj, hp, cell_kept h5 hg hr2⟩, (frozen_kept h5 hg hr2).trans h6, cell_kept h7 hg hr2, (frozen_kept h7 hg hr2).trans h8⟩
theorem CX_own (p : Int) (s : Nat) (w : World) (B : Nat) (hs : s ≤ w.heap.size) (hB : s ≤ B) (c : Code) : OwnFrom B (CX p s w c) := by
  refine OwnFrom.and ?_ (ownFrom_below hs hB)
  intro pre W W' row h hg hr
  have hr2 : ∀ r, row = some r → ∃ o : Obj, W.heap[r]? = some o ∧ o.isCells = false := fun r e => (hr r e).2
  obtain ⟨h1, b, h2, h3⟩ := h
  exact ⟨h1, b, cell_kept h2 hg hr2, h3⟩

theorem eqNil (B : Nat) (W : World) : (binOp BinOp.eql 93 (.func (.func 80) #[] #[.pointer (some ⟨B, 0, none⟩)]) .nilFunc).run Try.prog W = .ok (.bool false) W := by
  first
    | rfl
    | kernel_rfl
    | (simp [go_sem, binOp]; done)

/-- a block of one cell -/
def One (w : World) (g : Nat) (v : Value) (t : TypeId) : Prop := w.heap[g]? = some (.cells #[v] t)
theorem One.mk {w : World} {v : Value} {t : TypeId} {k : Nat} (h : k = w.heap.size) : One (w.alloc (.cells #[v] t)) k v t := hp_new h
theorem One.new {w w' : World} {g : Nat} {v : Value} {t : TypeId} (h : One w g v t) (hn : New w w') : One w' g v t := (hn.block g (Array.getElem?_eq_some_iff.1 h).1 (fun h => h)).trans h
theorem One.c {w : World} {g : Nat} {v : Value} {t : TypeId} (h : One w g v t) : w.cell? ⟨g, 0, none⟩ = some v := by rw [cell_of_row _ g 0 _ t (0, 0) h]; rfl
theorem One.f {w : World} {g : Nat} {v : Value} {t : TypeId} (h : One w g v t) : w.frozen? ⟨g, 0, none⟩ = false := by unfold One at h; simp [World.frozen?, h]

/-- the law of a walk that is handed out, one loop variable that is assigned to a slot of its own -/
theorem rangeF {F : Fence} {n : Nat} {P : Program} {α : Type} {g : Operand} {p q : Tmp} {assign body : Code} {Q : Exit → Act → World → Prop} {a : Act} {w : World} (enc : α → Value)
    (hro : F.round = none) (h1 : 1 ≤ n) {gf : Nat} {lb : Array Value} (hg : a.eval g = .func (.func gf) #[] lb) (hFg : F.fn gf) (eg : ∀ args w, (callFunc gf args).run P w = .ok (.enter gf args) w)
    {Kp : World → World → Prop} {S Sp : List α → Prop} {N : Nat} {w0 : World} (hseq : SeqStopsK F (n - 1) P gf lb (fun x => #[enc x]) Kp S Sp N w0)
    (hKt : ∀ {A B C : World}, Kp A B → Kp B C → Kp A C) (hKb : ∀ (W : World) (l : Nat) (o o' : Obj), w.heap.size ≤ l → W.heap[l]? = some o → o.isCells = false → o.isWalk = false → Kp W (W.putObj l o')) (hb0 : Below w0.heap.size w0 w)
    (I : List α → World → Prop) (Ix : Code → List α → World → Prop) (hI : OwnFrom w.heap.size I) (hIx : ∀ c, OwnFrom w.heap.size (Ix c)) (h0 : I [] w)
    (hassign : ∀ (l : Nat) (x : α) (W : World) (K : Act → World → Prop), K { tmps := (a.tmps.setIfInBounds p (enc x)).setIfInBounds q (enc x), defers := [] } W →
      assign.wpIn (F.inRound l) (n - 1 - 1) P (Exit.then K (fun _ _ _ => False)) { tmps := (#[p].zip #[enc x]).foldl (fun t (p, v) => t.setIfInBounds p v) a.tmps, defers := [] } W)
    (hbody : ∀ (l : Nat) (pre : List α) (x : α) (W : World), I pre W → pre.length < N → body.wpIn (F.inRound l) (n - 1 - 1) P (ownPostK Kp I Ix (pre ++ [x]) W) { tmps := (a.tmps.setIfInBounds p (enc x)).setIfInBounds q (enc x), defers := [] } W)
    (hdone : ∀ (D : Nat) (xs : List α) (W : World), w.heap.size ≤ D → S xs → I xs W → W.heap[D]? = some (.deferred (some [])) → Q .normal { a with defers := { target := .collected D, args := #[] } :: a.defers } W)
    (hstop : ∀ (D : Nat) (c : Code) (pre : List α) (W : World), w.heap.size ≤ D → Sp pre → Ix c pre W → W.heap[D]? = some (.deferred (some [])) → c.wpIn F n P Q { a with defers := { target := .collected D, args := #[] } :: a.defers } W) :
    (Code.rangeFunc g #[p] assign body).wpIn F n P Q a w :=
  wpIn_rangeFunc_ownF hro h1 hg hFg eg hseq (fun h k => hKt h k) hKb hb0 (fun _ => rfl) I Ix hI hIx h0 (fun x => { tmps := (a.tmps.setIfInBounds p (enc x)).setIfInBounds q (enc x), defers := [] })
    hassign hbody hdone hstop

def Cs (p most : Int) (s m k : Nat) (W : World) : Prop :=
  W.cell? ⟨s, 0, none⟩ = some (.int .u8 p) ∧ W.cell? ⟨s + 1, 0, none⟩ = some (.int .u16 most) ∧ W.cell? ⟨s + 1 + 1, 0, none⟩ = some (.bool false) ∧ W.frozen? ⟨s + 1 + 1, 0, none⟩ = false ∧
    W.cell? ⟨s + 1 + 1 + 1 + 1, 0, none⟩ = some (.int .u32 m) ∧ W.frozen? ⟨s + 1 + 1 + 1 + 1, 0, none⟩ = false ∧
    W.cell? ⟨s + 1 + 1 + 1 + 1 + 1, 0, none⟩ = some (.int .i64 k) ∧ W.frozen? ⟨s + 1 + 1 + 1 + 1 + 1, 0, none⟩ = false
def nx (s : Nat) (W : World) : Nat := (intOf ((W.cell? ⟨s + 1 + 1 + 1 + 1, 0, none⟩).getD undef)).toNat
theorem Cs.nx {p most : Int} {s m k : Nat} {W : World} (h : Cs p most s m k W) : nx s W = m := by
  unfold Proofs.Ytlmimlnflcfccaa.nx; rw [h.2.2.2.2.1]; simp [intOf]
theorem Cs.new {p most : Int} {s m k : Nat} {W W' : World} (h : Cs p most s m k W) (hn : New W W') : Cs p most s m k W' := by
  obtain ⟨h1, h2, h3, h4, h5, h6, h7, h8⟩ := h
  have hg := grown_of_new hn
  have hr : ∀ r, (none : Option Nat) = some r → ∃ o : Obj, W.heap[r]? = some o ∧ o.isCells = false := fun r e => by cases e
  exact ⟨cell_kept h1 hg hr, cell_kept h2 hg hr, cell_kept h3 hg hr, (frozen_kept h3 hg hr).trans h4, cell_kept h5 hg hr, (frozen_kept h5 hg hr).trans h6, cell_kept h7 hg hr, (frozen_kept h7 hg hr).trans h8⟩
theorem Cs.next {p most : Int} {s m k : Nat} {W : World} (h : Cs p most s m k W) (m' : Nat) : Cs p most s m' k (W.setCell ⟨s + 1 + 1 + 1 + 1, 0, none⟩ (.int .u32 m')) := by
  obtain ⟨h1, h2, h3, h4, h5, h6, h7, h8⟩ := h
  refine ⟨?_, ?_, ?_, ?_, World.cell?_setCell_same' _ _ _ (by rw [h5]; rfl), ?_, ?_, ?_⟩
  all_goals first
    | (rw [World.frozen?_setCell]; assumption)
    | (rw [World.cell?_setCell_other _ _ _ _ (by intro e; injection e; omega)]; assumption)
theorem Cs.many {p most : Int} {s m k : Nat} {W : World} (h : Cs p most s m k W) (k' : Nat) : Cs p most s m k' (W.setCell ⟨s + 1 + 1 + 1 + 1 + 1, 0, none⟩ (.int .i64 k')) := by
  obtain ⟨h1, h2, h3, h4, h5, h6, h7, h8⟩ := h
  refine ⟨?_, ?_, ?_, ?_, ?_, ?_, World.cell?_setCell_same' _ _ _ (by rw [h7]; rfl), ?_⟩
  all_goals first
    | (rw [World.frozen?_setCell]; assumption)
    | (rw [World.cell?_setCell_other _ _ _ _ (by intro e; injection e; omega)]; assumption)
def Rnd (s : Nat) (w W W' : World) : Prop := Below s w W' ∧ KeepsOthers W W' ∧ Below (s + 1 + 1 + 1 + 1) W W'
theorem Rnd.new {s : Nat} {w W wr wa : World} (h : Rnd s w W wr) (hn : New wr wa) (hB : s + 1 + 1 + 1 + 1 < wr.heap.size) : Rnd s w W wa :=
  ⟨h.1.trans ⟨hn.os, hn.tape, hn.output, hn.size, fun k hk => hn.block k (by omega) (fun h => h)⟩, h.2.1.trans (KeepsOthers.of_grownBy (grown_of_new hn) (fun j o e => by cases e)),
    h.2.2.trans ⟨hn.os, hn.tape, hn.output, hn.size, fun k hk => hn.block k (by omega) (fun h => h)⟩⟩
theorem Rnd.set {s : Nat} {w W wr : World} (h : Rnd s w W wr) (b : Nat) (hb : s + 1 + 1 + 1 + 1 ≤ b) (v : Value) : Rnd s w W (wr.setCell ⟨b, 0, none⟩ v) :=
  ⟨h.1.setCell (p := ⟨b, 0, none⟩) (by simp only; omega) _, h.2.1.trans (KeepsOthers.setCell _ _ _), h.2.2.setCell (p := ⟨b, 0, none⟩) (by simp only; omega) _⟩
theorem Cs.sz {p most : Int} {s m k : Nat} {W : World} (h : Cs p most s m k W) : s + 1 + 1 + 1 + 1 < W.heap.size := World.block_lt_of_cell? W _ h.2.2.2.2.1
/-- a round leaves with a word b in the result's cell -/
theorem out_ret {p most : Int} {s m k : Nat} {w W wr : World} (h : Rnd s w W wr) (hc : Cs p most s m k wr) (b : Bool) (xs : List Cd) (hb : ∀ i, i < 256 → isOp p i = true → xs = upto p (i + 1) → b = true) :
    KeepsOthers W (wr.setCell ⟨s + 1 + 1, 0, none⟩ (.bool b)) ∧ CX p s w .ret xs (wr.setCell ⟨s + 1 + 1, 0, none⟩ (.bool b)) :=
  ⟨h.2.1.trans (KeepsOthers.setCell _ _ _), ⟨rfl, b, World.cell?_setCell_same' _ _ _ (by rw [hc.2.2.1]; rfl), hb⟩, h.1.setCell (p := ⟨s + 1 + 1, 0, none⟩) (by simp only; omega) _⟩
theorem shape_high (p : Int) (k : Nat) (h : 0 ≤ (shapeV p k).1) : k < 256 := by
  rcases Nat.lt_or_ge k 256 with h1 | h1
  · exact h1
  · rw [show shapeV p k = (-1, 0) from if_pos (by omega)] at h
    exact absurd h (by decide)
theorem op_shape (p : Int) (k : Nat) : isOp p k = decide (0 ≤ (shapeV p k).1) := (find_shape p k (by omega)).1
theorem leave_true {F : Fence} {n s : Nat} {tmps : Array Value} {w w0 : World} (hw : w.cell? ⟨s, 0, none⟩ = some (.bool true)) (ht : tmps.getD 4 undef = .pointer (some ⟨s, 0, none⟩)) (hn : New w0 w) :
    LeavesInM F n Try.prog Try.f15 tmps (True' w0) [] .returning w := by
  have ht' : tmps[4]?.getD undef = .pointer (some ⟨s, 0, none⟩) := by simpa using ht
  refine ⟨_, ?_, rfl, hn⟩
  simp [results, Try.f15, go_sem, ht', hw]

theorem len_upto (p : Nat) : (upto p 256).length = if p = 0 then 183 else if p = 252 then 18 else if p = 253 then 236 else 0 := by
  by_cases h1 : p = 0
  · subst h1; rw [if_pos rfl]; decide +kernel
  · by_cases h2 : p = 252
    · subst h2; rw [if_neg h1, if_pos rfl]; decide +kernel
    · by_cases h3 : p = 253
      · subst h3; rw [if_neg h1, if_neg h2, if_pos rfl]; decide +kernel
      · rw [if_neg h1, if_neg h2, if_neg h3]
        have e : ∀ i : Nat, isOp p i = false := fun i => by
          unfold isOp findV
          rw [if_neg (by omega), if_neg (by omega), if_neg (by omega)]
        unfold upto
        rw [List.length_map, List.filter_eq_nil_iff.2 (fun a _ => by rw [e a]; decide)]
        rfl
theorem no_more {p : Int} {j : Nat} (hj : j ≤ 256) (h : upto p 256 = upto p j) (k : Nat) (hk : j ≤ k) : ¬ 0 ≤ (shapeV p k).1 := by
  intro h0
  have hk2 := shape_high p k h0
  have ho : isOp p k = true := by rw [op_shape]; simpa using h0
  have := (mem_upto p 256 k (by omega) (by omega)).mpr ⟨hk2, ho⟩
  rw [h] at this
  have := (mem_upto p j k (by omega) hj).mp this
  omega

theorem opCodes_in (n : Nat) (hn : 3 ≤ n) (p most : Nat) (w : World) (hp : p < 256) (hm : most < 65536) :
    CallsIn Fence.wide n Try.prog 15 #[.int .u8 p, .int .u16 most] w (True' w) := by
  have h1 : 1 ≤ n := by omega
  have HC := hid (fun w => callsIn_wide (n := n - 1).2 (Codes_any p w))
  refine callsIn_of_wp_marks Try.func15 rfl trivial ?_ rfl
  simp only [Try.ntmps15, List.size_toArray, List.length_cons, List.length_nil, Nat.reduceAdd, Nat.reduceSub, Array.replicate_succ, Array.replicate_zero, List.push_toArray, List.append_toArray, List.nil_append, List.cons_append]
  gi_wp2
  refine ⟨trivial, (HC.out _).mono ?_⟩
  rintro e wa ⟨rfl, rfl⟩
  have he := eqNil (w.heap.size + 1 + 1 + 1)
  gi_wp2
  clear he
  obtain ⟨W0, hW0⟩ : ∃ W0, (((((w.alloc (.cells #[.int .u8 p] 5)).alloc (.cells #[.int .u16 most] 91)).alloc (.cells #[.bool false] 4)).alloc (.cells #[.int .u8 p] 5)).alloc (.cells #[.int .u32 0] 70)).alloc (.cells #[.int .i64 0] 3) = W0 := ⟨_, rfl⟩
  have hz : W0.heap.size = w.heap.size + 1 + 1 + 1 + 1 + 1 + 1 := by rw [← hW0]; simp only [World.size_alloc]
  have o1 : One W0 w.heap.size (.int .u8 p) 5 := by rw [← hW0]; exact (One.mk rfl).new (((((Upd.refl _ _).alloc _).alloc _).alloc _).alloc _ |>.alloc _)
  have o2 : One W0 (w.heap.size + 1) (.int .u16 most) 91 := by rw [← hW0]; exact (One.mk (by simp only [World.size_alloc])).new ((((Upd.refl _ _).alloc _).alloc _).alloc _ |>.alloc _)
  have o3 : One W0 (w.heap.size + 1 + 1) (.bool false) 4 := by rw [← hW0]; exact (One.mk (by simp only [World.size_alloc])).new (((Upd.refl _ _).alloc _).alloc _ |>.alloc _)
  have o4 : One W0 (w.heap.size + 1 + 1 + 1) (.int .u8 p) 5 := by rw [← hW0]; exact (One.mk (by simp only [World.size_alloc])).new ((Upd.refl _ _).alloc _ |>.alloc _)
  have o5 : One W0 (w.heap.size + 1 + 1 + 1 + 1) (.int .u32 0) 70 := by rw [← hW0]; exact (One.mk (by simp only [World.size_alloc])).new ((Upd.refl _ _).alloc _)
  have o6 : One W0 (w.heap.size + 1 + 1 + 1 + 1 + 1) (.int .i64 0) 3 := by rw [← hW0]; exact One.mk (by simp only [World.size_alloc])
  have hI0 : CI p most w.heap.size w [] W0 := by
    refine ⟨⟨o1.c, o2.c, o3.c, o3.f, ⟨0, by omega, rfl, o5.c⟩, o5.f, o6.c, o6.f⟩, ?_⟩
    rw [← hW0]
    exact New.below (by repeat (first | exact Upd.refl _ _ | apply Upd.alloc))
  have hB0 := o4.c
  rw [hW0]
  have HZ := hid hz
  refine rangeF (fun x : Cd => .int .u32 (x.1 : Int)) (q := 8) rfl h1 (gf := 80) (lb := #[.pointer (some ⟨w.heap.size + 1 + 1 + 1, 0, none⟩)]) rfl trivial (enters_of Try.func80 (by kernel_rfl) rfl)
    (codes_stops (n - 1) (by omega) p (w.heap.size + 1 + 1 + 1) W0 hB0) belowK_t (belowK_b (by omega)) (Below.refl _ _) (CI p most w.heap.size w) (CX p w.heap.size w)
    (CI_own _ _ _ _ _ (Nat.le_refl _) (by omega)) (fun c => CX_own _ _ _ _ (Nat.le_refl _) (by omega) c) hI0 ?assign ?body ?done ?stop
  case assign =>
    intro l x W K hK
    simp only [List.setIfInBounds_toArray, List.set_cons_zero, List.set_cons_succ] at hK ⊢
    gi_wp2
    exact hK
  case body =>
    rintro l pre x W ⟨⟨h1', h2', h3', h4', ⟨j, hj, hpre, h5'⟩, h6', h7', h8'⟩, hbel⟩ hlen
    simp only [List.setIfInBounds_toArray, List.set_cons_zero, List.set_cons_succ]
    have hcs : Cs p most w.heap.size j pre.length W := ⟨h1', h2', h3', h4', h5', h6', h7', h8'⟩
    clear h1' h2' h3' h4' h5' h6' h7' h8'
    obtain ⟨c, hc⟩ := x
    have HP := hid hpre
    clear hpre
    have HA := hid (fun w => CallsIn.inRound l (callsIn_wide (n := n - 1 - 1 - 1).2 (awake6_any w)))
    obtain ⟨q, hq⟩ : ∃ q, pre.length = q := ⟨_, rfl⟩
    rw [hq] at hcs hlen
    have HQ := hid hq
    clear hq
    have HS := hid (fun (k : Nat) (h : k < 4294967296) w => CallsIn.inRound l (callsIn_wide (n := n - 1 - 1 - 1).2 (Shape_any p k w (by omega) (by omega))))
    gi_wp2
    gi_loopw [] (fun wr => ∃ m : Nat, j ≤ m ∧ (m ≤ c ∨ m = j) ∧ Cs p most w.heap.size m q wr ∧ Rnd w.heap.size w W wr ∧ Hid (∀ k, j ≤ k → k < m → isOp p k = false)) (fun wr => c - nx w.heap.size wr)
    case atStart => exact ⟨j, Nat.le_refl _, .inr rfl, hcs, ⟨hbel, KeepsOthers.refl _, Below.refl _ _⟩, hid (fun k h1 h2 => by omega)⟩
    case round =>
      obtain ⟨m, hm1, hm2, hcs, hrd, hno⟩ := hrel
      have hcs0 := hid hcs
      have hrd0 := hid hrd
      clear hrd
      obtain ⟨h1', h2', h3', h4', h5', h6', h7', h8'⟩ := hcs
      by_cases hlt : m < c
      · have hos := op_shape p m
        obtain ⟨v, hv⟩ : ∃ v, shapeV p m = v := ⟨_, rfl⟩
        obtain ⟨v1, v2⟩ := v
        rw [hv] at hos
        have HV := hid hv
        have HOS := hid hos
        clear hv hos
        gi_wp2
        refine ⟨trivial, fun h => (by cases h), (HS.out m (by omega) _).mono ?_⟩
        rw [HV.out]
        rintro e wa ⟨rfl, hn1⟩
        have hcs := hcs0.out.new hn1
        have hrd1 := hid (hrd0.out.new hn1 hcs0.out.sz)
        have hcs1 := hid hcs
        clear h1' h2' h3' h4' h5' h6' h7' h8'
        obtain ⟨h1', h2', h3', h4', h5', h6', h7', h8'⟩ := hcs
        by_cases hv0 : 0 ≤ v1
        · gi_wp2
          refine out_ret hrd1.out hcs1.out false _ ?_
          intro i hi ho hx
          obtain ⟨e1, e2, e3⟩ := upto_next hj hi ho (HP.out ▸ hx)
          have := e3 m hm1 (by simp only at e1; omega)
          rw [HOS.out] at this
          simp [hv0] at this
        · by_cases hbig : 300 < m
          · gi_wp2
            refine out_ret hrd1.out hcs1.out false _ ?_
            intro i hi ho hx
            obtain ⟨e1, e2, e3⟩ := upto_next hj hi ho (HP.out ▸ hx)
            simp only at e1
            omega
          · gi_wp2
            go_roundw
            case rel => exact ⟨m + 1, by omega, .inl (by omega), by simpa using hcs1.out.next (m + 1), hrd1.out.set _ (by omega) _, hid (fun k h1 h2 => by
              rcases Nat.lt_or_ge k m with h3 | h3
              · exact hno.out k h1 h3
              · obtain rfl : k = m := by omega
                rw [HOS.out]; simpa using hv0)⟩
            case measure =>
              have e1 := (hcs1.out.next (m + 1)).nx
              have e2 := hcs0.out.nx
              simp only [Int.natCast_add, Int.natCast_one] at e1
              simp only [e1, e2]
              omega
      · have hos := op_shape p c
        have hsh := shape_high p c
        obtain ⟨v, hv⟩ : ∃ v, shapeV p c = v := ⟨_, rfl⟩
        obtain ⟨v1, v2⟩ := v
        rw [hv] at hos hsh
        have HV := hid hv
        have HOS := hid hos
        have HSH := hid hsh
        clear hv hos hsh
        gi_wp2
        refine ⟨trivial, fun h => (by cases h), (HS.out c (by omega) _).mono ?_⟩
        rw [HV.out]
        rintro e wa ⟨rfl, hn1⟩
        have hcs := hcs0.out.new hn1
        have hrd1 := hid (hrd0.out.new hn1 hcs0.out.sz)
        have hcs1 := hid hcs
        clear h1' h2' h3' h4' h5' h6' h7' h8'
        obtain ⟨h1', h2', h3', h4', h5', h6', h7', h8'⟩ := hcs
        by_cases hv0 : v1 < 0
        · gi_wp2
          refine out_ret hrd1.out hcs1.out false _ ?_
          intro i hi ho hx
          obtain ⟨e1, e2, e3⟩ := upto_next hj hi ho (HP.out ▸ hx)
          simp only at e1
          subst e1
          rw [HOS.out] at ho
          simp at ho
          omega
        · by_cases hne : m = c
          · subst hne
            have hv1 : 0 ≤ v1 := by omega
            have hm6 := HSH.out hv1
            have hop : isOp p m = true := by rw [HOS.out]; simpa using hv1
            have hup : pre ++ [(⟨m, hc⟩ : Cd)] = upto p (m + 1) := by rw [upto_succ p m hc, if_pos hop, HP.out, upto_step hm1 hno.out]
            have hl1 : (pre ++ [(⟨m, hc⟩ : Cd)]).length = q + 1 := by rw [List.length_append, HQ.out]; rfl
            have HUP := hid hup
            have HL1 := hid hl1
            clear hup hl1
            by_cases hmo : 1 + most ≤ q + 1
            · gi_wp2
              refine ⟨trivial, fun h => (by cases h), (HA.out _).mono ?_⟩
              rintro e wb ⟨rfl, hn2⟩
              have hcsb := (((hcs1.out.next (m + 1)).many (q + 1)).new (by simpa using hn2))
              have hrdb := hid ((((hrd1.out.set _ (Nat.le_refl _) (.int .u32 ((m + 1 : Nat) : Int))).set _ (Nat.le_succ _) (.int .i64 ((q + 1 : Nat) : Int)))).new (by simpa using hn2) ((hcs1.out.next (m + 1)).many (q + 1)).sz)
              have hcsb0 := hid hcsb
              obtain ⟨g1, g2, g3, g4, g5, g6, g7, g8⟩ := hcsb
              clear h1' h2' h3' h4' h5' h6' h7' h8' hn1 hn2
              gi_wp2
              exact out_ret hrdb.out hcsb0.out true _ (fun _ _ _ _ => rfl)
            · gi_wp2
              have hcsb := ((hcs1.out.next (m + 1)).many (q + 1))
              have hrdb := ((hrd1.out.set _ (Nat.le_refl _) (.int .u32 ((m + 1 : Nat) : Int))).set _ (Nat.le_succ _) (.int .i64 ((q + 1 : Nat) : Int)))
              simp only [Int.natCast_add, Int.natCast_one] at hcsb hrdb
              refine ⟨hrdb.2.1, hrdb.2.2, ⟨?_, hrdb.1⟩⟩
              obtain ⟨g1, g2, g3, g4, g5, g6, g7, g8⟩ := hcsb
              refine ⟨g1, g2, g3, g4, ⟨m + 1, by omega, HUP.out, by simpa using g5⟩, g6, by rw [HL1.out]; simpa using g7, g8⟩
          · have hneb : ((m : Int) != (c : Int)) = true := by simp; omega
            gi_wp2
            refine out_ret hrd1.out hcs1.out false _ ?_
            intro i hi ho hx
            obtain ⟨e1, e2, e3⟩ := upto_next hj hi ho (HP.out ▸ hx)
            simp only at e1
            omega
  case done =>
    rintro D xs W hD rfl ⟨⟨h1', h2', h3', h4', ⟨j, hj, hpre, h5'⟩, h6', h7', h8'⟩, hbel⟩ hK
    have hcs : Cs p most w.heap.size j (upto p 256).length W := ⟨h1', h2', h3', h4', h5', h6', h7', h8'⟩
    clear h1' h2' h3' h4' h5' h6' h7' h8'
    have hq := len_upto p
    obtain ⟨q, hqe⟩ : ∃ q, (upto p 256).length = q := ⟨_, rfl⟩
    rw [hqe] at hcs hq
    clear hqe
    have HQ := hid hq
    clear hq
    have HN := hid (no_more hj hpre)
    clear hpre
    have HK := hid hK
    clear hK
    have HS := hid (fun (k : Nat) (h : k < 4294967296) w => callsIn_wide (n := n - 1).2 (Shape_any p k w (by omega) (by omega)))
    have HA := hid (fun w => callsIn_wide (n := n - 1).2 (awake6_any w))
    gi_wp2
    gi_loopw [] (fun wr => ∃ m : Nat, j ≤ m ∧ m ≤ 300 ∧ Cs p most w.heap.size m q wr ∧ Rnd w.heap.size w W wr) (fun wr => 300 - nx w.heap.size wr)
    case atStart => exact ⟨j, Nat.le_refl _, by omega, hcs, ⟨hbel, KeepsOthers.refl _, Below.refl _ _⟩⟩
    case round =>
      obtain ⟨m, hm1, hm2, hcs, hrd⟩ := hrel
      have hcs0 := hid hcs
      have hrd0 := hid hrd
      clear hrd
      obtain ⟨h1', h2', h3', h4', h5', h6', h7', h8'⟩ := hcs
      by_cases hlt : m < 300
      · have hv0 := HN.out m hm1
        obtain ⟨v, hv⟩ : ∃ v, shapeV p m = v := ⟨_, rfl⟩
        obtain ⟨v1, v2⟩ := v
        rw [hv] at hv0
        simp only at hv0
        have HV := hid hv
        clear hv
        gi_wp2
        refine ⟨trivial, (HS.out m (by omega) _).mono ?_⟩
        rw [HV.out]
        rintro e wa ⟨rfl, hn1⟩
        have hcs := hcs0.out.new hn1
        have hrd1 := hid (hrd0.out.new hn1 hcs0.out.sz)
        have hcs1 := hid hcs
        clear h1' h2' h3' h4' h5' h6' h7' h8'
        obtain ⟨h1', h2', h3', h4', h5', h6', h7', h8'⟩ := hcs
        gi_wp2
        go_roundw
        case rel => exact ⟨m + 1, by omega, by omega, by simpa using hcs1.out.next (m + 1), hrd1.out.set _ (by omega) _⟩
        case measure =>
          have e1 := (hcs1.out.next (m + 1)).nx
          have e2 := hcs0.out.nx
          simp only [Int.natCast_add, Int.natCast_one] at e1
          simp only [e1, e2]
          omega
      · have hq := HQ.out
        clear HQ
        by_cases hp0 : p = 0
        · subst hp0
          rw [if_pos rfl] at hq
          subst hq
          gi_wp2
          refine ⟨trivial, (HA.out _).mono ?_⟩
          rintro e wb ⟨rfl, hn2⟩
          have hcsb := hcs0.out.new hn2
          have hrdb := hid (hrd0.out.new hn2 hcs0.out.sz)
          have hcsb0 := hid hcsb
          obtain ⟨g1, g2, g3, g4, g5, g6, g7, g8⟩ := hcsb
          clear h1' h2' h3' h4' h5' h6' h7' h8' hn2
          gi_wp2
          have hK2 := ((hrdb.out.2.1).trans (KeepsOthers.setCell _ ⟨w.heap.size + 1 + 1, 0, none⟩ (.bool true))).same D _ HK.out rfl
          refine ⟨by simp, .inl ⟨_, _, rfl, run_takeDeferred hK2, ?_⟩⟩
          have hc5 : (wb.setCell ⟨w.heap.size + 1 + 1, 0, none⟩ (.bool true)).cell? ⟨w.heap.size + 1 + 1, 0, none⟩ = some (.bool true) := World.cell?_setCell_same' _ _ _ (by rw [hcsb0.out.2.2.1]; rfl)
          exact leave_true (cell_kept hc5 (grownBy_putObj' _ D (.deferred none)) (fun r e => by cases e; exact ⟨_, hK2, rfl⟩)) rfl (New.of_below ((hrdb.out.1.setCell (p := ⟨w.heap.size + 1 + 1, 0, none⟩) (by simp only; omega) _).trans (belowK_b (w := w) (Nat.le_refl _) _ D _ _ (by have := HZ.out; omega) hK2 rfl rfl)))
        · by_cases hp1 : p = 252
          · subst hp1
            rw [if_neg hp0, if_pos rfl] at hq
            subst hq
            gi_wp2
            refine ⟨trivial, (HA.out _).mono ?_⟩
            rintro e wb ⟨rfl, hn2⟩
            have hcsb := hcs0.out.new hn2
            have hrdb := hid (hrd0.out.new hn2 hcs0.out.sz)
            have hcsb0 := hid hcsb
            obtain ⟨g1, g2, g3, g4, g5, g6, g7, g8⟩ := hcsb
            clear h1' h2' h3' h4' h5' h6' h7' h8' hn2
            gi_wp2
            have hK2 := ((hrdb.out.2.1).trans (KeepsOthers.setCell _ ⟨w.heap.size + 1 + 1, 0, none⟩ (.bool true))).same D _ HK.out rfl
            refine ⟨by simp, .inl ⟨_, _, rfl, run_takeDeferred hK2, ?_⟩⟩
            have hc5 : (wb.setCell ⟨w.heap.size + 1 + 1, 0, none⟩ (.bool true)).cell? ⟨w.heap.size + 1 + 1, 0, none⟩ = some (.bool true) := World.cell?_setCell_same' _ _ _ (by rw [hcsb0.out.2.2.1]; rfl)
            exact leave_true (cell_kept hc5 (grownBy_putObj' _ D (.deferred none)) (fun r e => by cases e; exact ⟨_, hK2, rfl⟩)) rfl (New.of_below ((hrdb.out.1.setCell (p := ⟨w.heap.size + 1 + 1, 0, none⟩) (by simp only; omega) _).trans (belowK_b (w := w) (Nat.le_refl _) _ D _ _ (by have := HZ.out; omega) hK2 rfl rfl)))
          · by_cases hp2 : p = 253
            · subst hp2
              rw [if_neg hp0, if_neg hp1, if_pos rfl] at hq
              subst hq
              gi_wp2
              refine ⟨trivial, (HA.out _).mono ?_⟩
              rintro e wb ⟨rfl, hn2⟩
              have hcsb := hcs0.out.new hn2
              have hrdb := hid (hrd0.out.new hn2 hcs0.out.sz)
              have hcsb0 := hid hcsb
              obtain ⟨g1, g2, g3, g4, g5, g6, g7, g8⟩ := hcsb
              clear h1' h2' h3' h4' h5' h6' h7' h8' hn2
              gi_wp2
              have hK2 := ((hrdb.out.2.1).trans (KeepsOthers.setCell _ ⟨w.heap.size + 1 + 1, 0, none⟩ (.bool true))).same D _ HK.out rfl
              refine ⟨by simp, .inl ⟨_, _, rfl, run_takeDeferred hK2, ?_⟩⟩
              have hc5 : (wb.setCell ⟨w.heap.size + 1 + 1, 0, none⟩ (.bool true)).cell? ⟨w.heap.size + 1 + 1, 0, none⟩ = some (.bool true) := World.cell?_setCell_same' _ _ _ (by rw [hcsb0.out.2.2.1]; rfl)
              exact leave_true (cell_kept hc5 (grownBy_putObj' _ D (.deferred none)) (fun r e => by cases e; exact ⟨_, hK2, rfl⟩)) rfl (New.of_below ((hrdb.out.1.setCell (p := ⟨w.heap.size + 1 + 1, 0, none⟩) (by simp only; omega) _).trans (belowK_b (w := w) (Nat.le_refl _) _ D _ _ (by have := HZ.out; omega) hK2 rfl rfl)))
            · rw [if_neg hp0, if_neg hp1, if_neg hp2] at hq
              subst hq
              gi_wp2
              refine ⟨trivial, (HA.out _).mono ?_⟩
              rintro e wb ⟨rfl, hn2⟩
              have hcsb := hcs0.out.new hn2
              have hrdb := hid (hrd0.out.new hn2 hcs0.out.sz)
              have hcsb0 := hid hcsb
              obtain ⟨g1, g2, g3, g4, g5, g6, g7, g8⟩ := hcsb
              clear h1' h2' h3' h4' h5' h6' h7' h8' hn2
              gi_wp2
              have hK2 := ((hrdb.out.2.1).trans (KeepsOthers.setCell _ ⟨w.heap.size + 1 + 1, 0, none⟩ (.bool true))).same D _ HK.out rfl
              refine ⟨by simp, .inl ⟨_, _, rfl, run_takeDeferred hK2, ?_⟩⟩
              have hc5 : (wb.setCell ⟨w.heap.size + 1 + 1, 0, none⟩ (.bool true)).cell? ⟨w.heap.size + 1 + 1, 0, none⟩ = some (.bool true) := World.cell?_setCell_same' _ _ _ (by rw [hcsb0.out.2.2.1]; rfl)
              exact leave_true (cell_kept hc5 (grownBy_putObj' _ D (.deferred none)) (fun r e => by cases e; exact ⟨_, hK2, rfl⟩)) rfl (New.of_below ((hrdb.out.1.setCell (p := ⟨w.heap.size + 1 + 1, 0, none⟩) (by simp only; omega) _).trans (belowK_b (w := w) (Nat.le_refl _) _ D _ _ (by have := HZ.out; omega) hK2 rfl rfl)))
  case stop =>
    rintro D c pre W hD ⟨i, hi, ho, rfl⟩ ⟨⟨rfl, b, hb, hall⟩, hbel⟩ hK
    obtain rfl : b = true := hall i hi ho rfl
    gi_wp2
    refine ⟨by simp, .inl ⟨_, _, rfl, run_takeDeferred hK, ?_⟩⟩
    exact leave_true (cell_kept hb (grownBy_putObj' _ D (.deferred none)) (fun r e => by cases e; exact ⟨_, hK, rfl⟩)) rfl (New.of_below (hbel.trans (belowK_b (w := w) (Nat.le_refl _) W D _ _ (by have := HZ.out; omega) hK rfl rfl)))
theorem opCodes_walk (p most : Nat) (w : World) (hp : p < 256) (hm : most < 65536) : Calls Try.prog 15 #[.int .u8 p, .int .u16 most] w (True' w) :=
  (callsIn_wide (n := 3)).1 (opCodes_in 3 (Nat.le_refl _) p most w hp hm)
end Go.Proofs.Ytlmimlnflcfccaa
