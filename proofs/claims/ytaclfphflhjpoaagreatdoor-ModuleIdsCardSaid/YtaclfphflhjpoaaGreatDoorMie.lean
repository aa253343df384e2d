/-
  A module that has nothing but funcs: whether it may be; what the chapter's example says; ModuleIds.
-/
import Derived.Test.YtaclfphflhjpoaaGreatDoorMid
import Derived.RangeFuncFrom
namespace Go.Proofs.YtaclfphflhjpoaaGreatDoor
open Go.RowKit Go.Shelf Go.Proofs.Own
attribute [local go_sem] Oper.semAt_some
set_option maxRecDepth 100000
set_option maxHeartbeats 4000000

def mz (fs : Value) : Array Value := #[.slice none 0 0, .slice none 0 0, fs, .slice none 0 0, .slice none 0 0, .slice none 0 0, .slice none 0 0, .bool false, .int .u32 0, .slice none 0 0, .bool false, .slice none 0 0, .slice none 0 0, .slice none 0 0]
def MBox (w : World) (g : Nat) (fs : Value) : Prop := w.heap[g]? = some (.cells (mz fs) 40)
theorem MBox.cs {w : World} {g : Nat} {fs : Value} (h : MBox w g fs) : w.cell? ⟨g, 0, none⟩ = some (.slice none 0 0) ∧ w.cell? ⟨g, 1, none⟩ = some (.slice none 0 0) ∧ w.cell? ⟨g, 2, none⟩ = some (fs) ∧ w.cell? ⟨g, 3, none⟩ = some (.slice none 0 0) ∧ w.cell? ⟨g, 4, none⟩ = some (.slice none 0 0) ∧ w.cell? ⟨g, 5, none⟩ = some (.slice none 0 0) ∧ w.cell? ⟨g, 6, none⟩ = some (.slice none 0 0) ∧ w.cell? ⟨g, 7, none⟩ = some (.bool false) ∧ w.cell? ⟨g, 8, none⟩ = some (.int .u32 0) ∧ w.cell? ⟨g, 9, none⟩ = some (.slice none 0 0) ∧ w.cell? ⟨g, 10, none⟩ = some (.bool false) ∧ w.cell? ⟨g, 11, none⟩ = some (.slice none 0 0) ∧ w.cell? ⟨g, 12, none⟩ = some (.slice none 0 0) ∧ w.cell? ⟨g, 13, none⟩ = some (.slice none 0 0) :=
  ⟨cellAt h 0 rfl, cellAt h 1 rfl, cellAt h 2 rfl, cellAt h 3 rfl, cellAt h 4 rfl, cellAt h 5 rfl, cellAt h 6 rfl, cellAt h 7 rfl, cellAt h 8 rfl, cellAt h 9 rfl, cellAt h 10 rfl, cellAt h 11 rfl, cellAt h 12 rfl, cellAt h 13 rfl⟩
theorem customs_mz (a : Option Addr) (n c : Nat) (w : World) : Calls Tryz.prog 28 #[.agg (mz (.slice a n c))] w (IsNew true w) := by
  have HN := hid (fun o => (Upd.refl (fun _ => False) w).alloc o)
  unfold mz
  go_enter Tryz.func28, Tryz.ntmps28
  go_wp2_with fail
  go_loop [9] (fun c => c = .int .i64 0) (fun _ => 0)
  case atStart => rfl
  case round =>
    subst hrel
    go_wp2_with fail
    go_ret
    exact ⟨rfl, HN.out _⟩
theorem exprs_stops (n : Nat) (B : Nat) (fs : Value) (w : World) (hB : MBox w B fs) :
    SeqStopsK Fence.wide n Tryz.prog 75 #[.pointer (some ⟨B, 0, none⟩)] (fun c : Value => #[c]) (Below (B + 1)) (fun xs => xs = []) (fun _ => False) 0 w := fun l J Jx W hW hJ hJx hY h0 => by
  have HB : Hid (MBox W B fs) := (hW.block _ (Array.getElem?_eq_some_iff.1 hB).1).trans hB
  obtain ⟨z0, z1, z2, z3, z4, z5, z6, z7, z8, z9, z10, z11, z12, z13⟩ := HB.out.cs
  have H0 := hid h0
  clear h0 hY hJ hJx hW
  refine callsIn_of_wp Tryz.func75 rfl trivial ?_ rfl
  simp only [Tryz.ntmps75, List.size_toArray, List.length_cons, List.length_nil, Nat.reduceAdd, Nat.reduceSub, Array.replicate_succ, Array.replicate_zero, List.push_toArray, List.append_toArray, List.nil_append, List.cons_append]
  gi_wp2
  gi_loopw [16] (fun q wr => q = .int .i64 0 ∧ wr = W) (fun _ _ => 0)
  case atStart => exact ⟨rfl, rfl⟩
  case round =>
    obtain ⟨rfl, hw⟩ := hrel
    subst wr
    gi_wp2
    gi_loopw [29] (fun q w2 => q = .int .i64 0 ∧ w2 = W) (fun _ _ => 0)
    case atStart => exact ⟨rfl, rfl⟩
    case round =>
      obtain ⟨rfl, hw⟩ := hrel
      subst wr
      gi_wp2
      gi_loopw [54] (fun q w2 => q = .int .i64 0 ∧ w2 = W) (fun _ _ => 0)
      case atStart => exact ⟨rfl, rfl⟩
      case round =>
        obtain ⟨rfl, hw⟩ := hrel
        subst wr
        gi_wp2
        gi_loopw [67] (fun q w2 => q = .int .i64 0 ∧ w2 = W) (fun _ _ => 0)
        case atStart => exact ⟨rfl, rfl⟩
        case round =>
          obtain ⟨rfl, hw⟩ := hrel
          subst wr
          gi_wp2
          go_end0
          exact ⟨⟨_, rfl⟩, .inl ⟨[], rfl, H0.out⟩⟩
theorem exprs_mz (a : Option Addr) (n c : Nat) (w : World) : Calls Tryz.prog 55 #[.agg (mz (.slice a n c))] w fun e w' => e = .returned (.func (.func 75) #[] #[.pointer (some ⟨w.heap.size, 0, none⟩)]) ∧ w.alloc (.cells (mz (.slice a n c)) 40) = w' := by
  unfold mz
  go_enter Tryz.func55, Tryz.ntmps55
  go_wp2_with fail
  go_ret
  exact ⟨rfl, rfl⟩

/-- a block of one cell -/
def One (w : World) (g : Nat) (v : Value) (t : TypeId) : Prop := w.heap[g]? = some (.cells #[v] t)
theorem One.mk {w : World} {v : Value} {t : TypeId} {k : Nat} (h : k = w.heap.size) : One (w.alloc (.cells #[v] t)) k v t := hp_new h
theorem One.new {w w' : World} {g : Nat} {v : Value} {t : TypeId} (h : One w g v t) (hn : New w w') : One w' g v t := (hn.block g (Array.getElem?_eq_some_iff.1 h).1 (fun h => h)).trans h
theorem One.c {w : World} {g : Nat} {v : Value} {t : TypeId} (h : One w g v t) : w.cell? ⟨g, 0, none⟩ = some v := by rw [cell_of_row _ g 0 _ t (0, 0) h]; rfl
theorem One.f {w : World} {g : Nat} {v : Value} {t : TypeId} (h : One w g v t) : w.frozen? ⟨g, 0, none⟩ = false := by unfold One at h; simp [World.frozen?, h]
theorem rangeF {F : Fence} {n : Nat} {P : Program} {α : Type} {g : Operand} {p q : Tmp} {assign body : Code} {Q : Exit → Act → World → Prop} {a : Act} {w : World} (enc : α → Value)
    (hro : F.round = none) (h1 : 1 ≤ n) {gf : Nat} {lb : Array Value} (hg : a.eval g = .func (.func gf) #[] lb) (hFg : F.fn gf) (eg : ∀ args w, (callFunc gf args).run P w = .ok (.enter gf args) w)
    {Kp : World → World → Prop} {S Sp : List α → Prop} {N : Nat} {w0 : World} (hseq : SeqStopsK F (n - 1) P gf lb (fun x => #[enc x]) Kp S Sp N w0)
    (hKt : ∀ {A B C : World}, Kp A B → Kp B C → Kp A C) (hKb : ∀ (W : World) (l : Nat) (o o' : Obj), w.heap.size ≤ l → W.heap[l]? = some o → o.isCells = false → o.isWalk = false → Kp W (W.putObj l o')) (hb0 : Below w0.heap.size w0 w)
    (I : List α → World → Prop) (Ix : Code → List α → World → Prop) (hI : OwnFrom w.heap.size I) (hIx : ∀ c, OwnFrom w.heap.size (Ix c)) (h0 : I [] w)
    (hassign : ∀ (l : Nat) (x : α) (W : World) (K : Act → World → Prop), K { tmps := (a.tmps.setIfInBounds p (enc x)).setIfInBounds q (enc x), defers := [] } W →
      assign.wpIn (F.inRound l) (n - 1 - 1) P (Exit.then K (fun _ _ _ => False)) { tmps := (#[p].zip #[enc x]).foldl (fun t (p, v) => t.setIfInBounds p v) a.tmps, defers := [] } W)
    (hbody : ∀ (l : Nat) (pre : List α) (x : α) (W : World), I pre W → pre.length < N → body.wpIn (F.inRound l) (n - 1 - 1) P (ownPostK Kp I Ix (pre ++ [x]) W) { tmps := (a.tmps.setIfInBounds p (enc x)).setIfInBounds q (enc x), defers := [] } W)
    (hdone : ∀ (D : Nat) (xs : List α) (W : World), w.heap.size ≤ D → S xs → I xs W → W.heap[D]? = some (.deferred (some [])) → Q .normal { a with defers := { target := .collected D, args := #[] } :: a.defers } W)
    (hstop : ∀ (D : Nat) (c : Code) (pre : List α) (W : World), w.heap.size ≤ D → Sp pre → Ix c pre W → W.heap[D]? = some (.deferred (some [])) → c.wpIn F n P Q { a with defers := { target := .collected D, args := #[] } :: a.defers } W) :
    (Code.rangeFunc g #[p] assign body).wpIn F n P Q a w :=
  wpIn_rangeFunc_ownF hro h1 hg hFg eg hseq (fun h k => hKt h k) hKb hb0 (fun _ => rfl) I Ix hI hIx h0 (fun x => { tmps := (a.tmps.setIfInBounds p (enc x)).setIfInBounds q (enc x), defers := [] })
    hassign hbody hdone hstop
def DI (s : Nat) (w : World) (_ : List Value) (W : World) : Prop := (W.cell? ⟨s + 1, 0, none⟩ = some (.bool false) ∧ W.frozen? ⟨s + 1, 0, none⟩ = false) ∧ Below s w W
theorem DI_own (s : Nat) (w : World) (B : Nat) (hs : s ≤ w.heap.size) (hB : s ≤ B) : OwnFrom B (DI s w) := by
  refine OwnFrom.and ?_ (ownFrom_below hs hB)
  intro pre W W' row h hg hr
  have hr2 : ∀ r, row = some r → ∃ o : Obj, W.heap[r]? = some o ∧ o.isCells = false := fun r e => (hr r e).2
  obtain ⟨h1, h2⟩ := h
  exact ⟨cell_kept h1 hg hr2, (frozen_kept h1 hg hr2).trans h2⟩
theorem leave_data {F : Fence} {n s : Nat} {tmps : Array Value} {w w0 : World} {b : Bool} (hw : w.cell? ⟨s, 0, none⟩ = some (.bool b)) (ht : tmps.getD 2 undef = .pointer (some ⟨s, 0, none⟩)) (hn : New w0 w) :
    LeavesInM F n Tryz.prog Tryz.f27 tmps (IsNew b w0) [] .returning w := by
  have ht' : tmps[2]?.getD undef = .pointer (some ⟨s, 0, none⟩) := by simpa using ht
  refine ⟨_, ?_, rfl, hn⟩
  simp [results, Tryz.f27, go_sem, ht', hw]
theorem data_in (k : Nat) (hk : 3 ≤ k) (a : Option Addr) (n c : Nat) (w : World) : CallsIn Fence.wide k Tryz.prog 27 #[.agg (mz (.slice a n c))] w (IsNew false w) := by
  have h1 : 1 ≤ k := by omega
  have HC := hid (fun w => callsIn_wide (n := k - 1).2 (exprs_mz a n c w))
  obtain ⟨W0, hW0⟩ : ∃ W0, ((w.alloc (.cells (mz (.slice a n c)) 40)).alloc (.cells #[.bool false] 4)).alloc (.cells (mz (.slice a n c)) 40) = W0 := ⟨_, rfl⟩
  have hz : W0.heap.size = w.heap.size + 1 + 1 + 1 := by rw [← hW0]; simp only [World.size_alloc]
  have o2 : One W0 (w.heap.size + 1) (.bool false) 4 := by rw [← hW0]; exact (One.mk (by simp only [World.size_alloc])).new ((Upd.refl _ _).alloc _)
  have o3 : MBox W0 (w.heap.size + 1 + 1) (.slice a n c) := by rw [← hW0]; exact hp_new (by simp only [World.size_alloc])
  have hI0 : DI w.heap.size w [] W0 := by
    refine ⟨⟨o2.c, o2.f⟩, ?_⟩
    rw [← hW0]
    exact New.below (((Upd.refl _ _).alloc _).alloc _ |>.alloc _)
  refine callsIn_of_wp_marks Tryz.func27 rfl trivial ?_ rfl
  simp only [Tryz.ntmps27, List.size_toArray, List.length_cons, List.length_nil, Nat.reduceAdd, Nat.reduceSub, Array.replicate_succ, Array.replicate_zero, List.push_toArray, List.append_toArray, List.nil_append, List.cons_append]
  have HM := hid (rfl : mz (.slice a n c) = mz (.slice a n c))
  unfold mz at hW0 ⊢
  gi_wp2
  refine ⟨trivial, (HC.out _).mono ?_⟩
  rintro e wa ⟨rfl, rfl⟩
  gi_wp2
  unfold mz
  rw [hW0]
  have HZ := hid hz
  clear hW0 hz HM
  refine rangeF (fun x : Value => x) (q := 3) rfl h1 (gf := 75) (lb := #[.pointer (some ⟨w.heap.size + 1 + 1, 0, none⟩)]) rfl trivial (enters_of Tryz.func75 (by kernel_rfl) rfl)
    (exprs_stops (k - 1) (w.heap.size + 1 + 1) _ W0 o3) belowK_t (belowK_b (by have := HZ.out; omega)) (Below.refl _ _) (DI w.heap.size w) (fun _ _ _ => False)
    (DI_own _ _ _ (Nat.le_refl _) (by have := HZ.out; omega)) (fun c => fun _ _ _ _ h => h.elim) hI0 ?assign ?body ?done ?stop
  case assign =>
    intro l x W K hK
    simp only [List.setIfInBounds_toArray, List.set_cons_zero, List.set_cons_succ] at hK ⊢
    gi_wp2
    exact hK
  case body =>
    rintro l pre x W _ hlen
    exact absurd hlen (Nat.not_lt_zero _)
  case done =>
    rintro D xs W hD rfl ⟨⟨hc, hf⟩, hbel⟩ hK
    have HK := hid hK
    clear hK
    gi_wp2
    have hK2 := (KeepsOthers.setCell W ⟨w.heap.size + 1, 0, none⟩ (.bool false)).same D _ HK.out rfl
    refine ⟨by simp, .inl ⟨_, _, rfl, run_takeDeferred hK2, ?_⟩⟩
    have hc5 : (W.setCell ⟨w.heap.size + 1, 0, none⟩ (.bool false)).cell? ⟨w.heap.size + 1, 0, none⟩ = some (.bool false) := World.cell?_setCell_same' _ _ _ (by rw [hc]; rfl)
    exact leave_data (cell_kept hc5 (grownBy_putObj' _ D (.deferred none)) (fun r e => by cases e; exact ⟨_, hK2, rfl⟩)) rfl (New.of_below ((hbel.setCell (p := ⟨w.heap.size + 1, 0, none⟩) (by simp only; omega) _).trans (belowK_b (w := w) (Nat.le_refl _) _ D _ _ (by have := HZ.out; omega) hK2 rfl rfl)))
  case stop =>
    rintro D c pre W hD h
    exact h.elim
theorem data_mz (a : Option Addr) (n c : Nat) (w : World) : Calls Tryz.prog 27 #[.agg (mz (.slice a n c))] w (IsNew false w) :=
  (callsIn_wide (n := 3)).1 (data_in 3 (Nat.le_refl _) a n c w)
theorem right_mz (a : Option Addr) (n c : Nat) (b : Bool) (hnb : n = 0 ∧ b = true ∨ n = 1 ∧ b = false) (w : World) : Calls Tryz.prog 8 #[.agg (mz (.slice a n c))] w (IsNew b w) := by
  obtain ⟨w2, hw2⟩ : ∃ w2, w.alloc (.cells (mz (.slice a n c)) 40) = w2 := ⟨_, rfl⟩
  have HN2 : Hid (New w2 w2) := Upd.refl _ _
  have HN : Hid (New w w2) := by show New _ _; rw [← hw2]; exact (Upd.refl _ _).alloc _
  have HB : Hid (MBox w2 w.heap.size (.slice a n c)) := by show MBox _ _ _; rw [← hw2]; exact hp_new rfl
  have HD := hid (fun w => data_mz a n c w)
  have HC := hid (fun w => customs_mz a n c w)
  unfold mz at hw2 ⊢
  have HW := hid hw2
  clear hw2
  go_enter Tryz.func8, Tryz.ntmps8
  go_wp2_with fail
  rw [HW.out]
  clear HW
  refine (allnil9 _ _).mono ?_
  rintro e w3 ⟨rfl, hq⟩
  have HN3 := hid (New.trans HN2.out hq)
  clear hq
  obtain ⟨z0, z1, z2, z3, z4, z5, z6, z7, z8, z9, z10, z11, z12, z13⟩ := (MBox.cs (hp1 HB.out HN3.out))
  go_wp2_with fail
  clear z0 z1 z2 z3 z4 z5 z6 z7 z8 z9 z10 z11 z12 z13
  refine (allnil11 _ _).mono ?_
  rintro e w4 ⟨rfl, hq⟩
  have HN4 := hid (New.trans HN3.out hq)
  clear hq
  obtain ⟨z0, z1, z2, z3, z4, z5, z6, z7, z8, z9, z10, z11, z12, z13⟩ := (MBox.cs (hp1 HB.out HN4.out))
  go_wp2_with fail
  clear z0 z1 z2 z3 z4 z5 z6 z7 z8 z9 z10 z11 z12 z13
  refine (allnil13 _ _).mono ?_
  rintro e w5 ⟨rfl, hq⟩
  have HN5 := hid (New.trans HN4.out hq)
  clear hq
  obtain ⟨z0, z1, z2, z3, z4, z5, z6, z7, z8, z9, z10, z11, z12, z13⟩ := (MBox.cs (hp1 HB.out HN5.out))
  go_wp2_with fail
  clear z0 z1 z2 z3 z4 z5 z6 z7 z8 z9 z10 z11 z12 z13
  refine (allnil15 _ _).mono ?_
  rintro e w6 ⟨rfl, hq⟩
  have HN6 := hid (New.trans HN5.out hq)
  clear hq
  obtain ⟨z0, z1, z2, z3, z4, z5, z6, z7, z8, z9, z10, z11, z12, z13⟩ := (MBox.cs (hp1 HB.out HN6.out))
  go_wp2_with fail
  clear z0 z1 z2 z3 z4 z5 z6 z7 z8 z9 z10 z11 z12 z13
  refine (allnil17 _ _).mono ?_
  rintro e w7 ⟨rfl, hq⟩
  have HN7 := hid (New.trans HN6.out hq)
  clear hq
  obtain ⟨z0, z1, z2, z3, z4, z5, z6, z7, z8, z9, z10, z11, z12, z13⟩ := (MBox.cs (hp1 HB.out HN7.out))
  go_wp2_with fail
  clear z0 z1 z2 z3 z4 z5 z6 z7 z8 z9 z10 z11 z12 z13
  refine (allnil19 _ _).mono ?_
  rintro e w8 ⟨rfl, hq⟩
  have HN8 := hid (New.trans HN7.out hq)
  clear hq
  obtain ⟨z0, z1, z2, z3, z4, z5, z6, z7, z8, z9, z10, z11, z12, z13⟩ := (MBox.cs (hp1 HB.out HN8.out))
  go_wp2_with fail
  clear z0 z1 z2 z3 z4 z5 z6 z7 z8 z9 z10 z11 z12 z13
  refine (allnil21 _ _).mono ?_
  rintro e w9 ⟨rfl, hq⟩
  have HN9 := hid (New.trans HN8.out hq)
  clear hq
  obtain ⟨z0, z1, z2, z3, z4, z5, z6, z7, z8, z9, z10, z11, z12, z13⟩ := (MBox.cs (hp1 HB.out HN9.out))
  go_wp2_with fail
  clear z0 z1 z2 z3 z4 z5 z6 z7 z8 z9 z10 z11 z12 z13
  refine (allnil23 _ _).mono ?_
  rintro e w10 ⟨rfl, hq⟩
  have HN10 := hid (New.trans HN9.out hq)
  clear hq
  obtain ⟨z0, z1, z2, z3, z4, z5, z6, z7, z8, z9, z10, z11, z12, z13⟩ := (MBox.cs (hp1 HB.out HN10.out))
  go_wp2_with fail
  clear z0 z1 z2 z3 z4 z5 z6 z7 z8 z9 z10 z11 z12 z13
  refine (allnil25 _ _).mono ?_
  rintro e w11 ⟨rfl, hq⟩
  have HN11 := hid (New.trans HN10.out hq)
  clear hq
  obtain ⟨z0, z1, z2, z3, z4, z5, z6, z7, z8, z9, z10, z11, z12, z13⟩ := (MBox.cs (hp1 HB.out HN11.out))
  rcases hnb with ⟨rfl, rfl⟩ | ⟨rfl, rfl⟩
  · go_wp2_with fail
    clear z0 z1 z2 z3 z4 z5 z6 z7 z8 z9 z10 z11 z12 z13
    refine (HD.out _).mono ?_
    rintro e wa ⟨rfl, hq⟩
    have HNa := hid (New.trans HN11.out hq)
    clear hq
    obtain ⟨z0, z1, z2, z3, z4, z5, z6, z7, z8, z9, z10, z11, z12, z13⟩ := (MBox.cs (hp1 HB.out HNa.out))
    go_wp2_with fail
    clear z0 z1 z2 z3 z4 z5 z6 z7 z8 z9 z10 z11 z12 z13
    refine (HC.out _).mono ?_
    rintro e wb ⟨rfl, hq⟩
    have HNb := hid (New.trans HNa.out hq)
    clear hq
    go_wp2_with fail
    go_ret
    exact ⟨rfl, New.trans HN.out HNb.out⟩
  · go_wp2_with fail
    all_goals first
      | (go_ret; exact ⟨rfl, New.trans HN.out HN11.out⟩)
      | exact absurd ‹some undef = some (Value.bool _)› (by simp [undef])
theorem awakeM_any (w : World) (hI : Ids w) : Calls Tryz.prog 7 #[] w (True' w) := by
  have HI := hid hI
  clear hI
  go_enter Tryz.func7, Tryz.ntmps7
  go_wp2_with fail
  refine (right_mz none 0 0 true (.inl ⟨rfl, rfl⟩) _).mono ?_
  rintro e w2 ⟨rfl, hq⟩
  have HN2 := hid hq
  clear hq
  go_wp2_with fail
  refine (right_mz _ 1 1 false (.inr ⟨rfl, rfl⟩) _).mono ?_
  rintro e w3 ⟨rfl, hq⟩
  have HN3 : Hid (New w w3) := New.trans (HN2.out.alloc _) hq
  clear hq
  go_wp2_with fail
  refine (id_any 10 w3 (HI.out.new HN3.out)).mono ?_
  rintro e w4 ⟨rfl, rfl⟩
  rw [show idV 10 = 12 from by decide]
  go_wp2_with fail
  go_ret
  exact ⟨rfl, HN3.out⟩
theorem moduleIds_walk (p i : Int) (w : World) (h0 : 0 ≤ i) (h1 : i < 256) (hI : Ids w) : Calls Tryz.prog 3 #[.int .i64 p, .int .u8 i] w (True' w) := by
  have HI := hid hI
  have HA := hid (awakeM_any w hI)
  have HR := hid (fun p => refId_any p w)
  have HD := hid (fun p => id_any p w hI)
  have HP := hid (part_any i w h0 h1 hI)
  clear hI
  go_enter Tryz.func3, Tryz.ntmps3
  go_wp2_with fail
  go_loop [5, 6] (fun v q => ∃ k : Nat, 1 ≤ k ∧ k ≤ 13 ∧ q = .int .i64 k ∧ v = .int .i64 (lastV i k)) (fun _ q => 13 - (intOf q).toNat)
  case atStart => exact ⟨1, by omega, by omega, rfl, rfl⟩
  case round =>
    obtain ⟨k, hk1, hk2, rfl, rfl⟩ := hrel
    by_cases hlt : k ≤ 12
    · have hs : lastV i (k + 1) = if 1 ≤ k ∧ idV k = i then (k : Int) else lastV i k := rfl
      by_cases he : idV k = i
      · rw [if_pos ⟨hk1, he⟩] at hs
        have HS := hid hs
        have he' : (idV k == i) = true := beq_iff_eq.2 he
        clear hs he
        go_wp2_with fail
        refine (HR.out _).mono ?_
        rintro e w2 ⟨rfl, rfl⟩
        go_wp2_with fail
        go_round
        case rel => exact ⟨k + 1, by omega, by omega, by go_num, by rw [HS.out]⟩
        case measure => simp [intOf]; omega
      · rw [if_neg (fun h => he h.2)] at hs
        have HS := hid hs
        have he' : (idV k == i) = false := beq_eq_false_iff_ne.2 he
        clear hs he
        go_wp2_with fail
        refine (HR.out _).mono ?_
        rintro e w2 ⟨rfl, rfl⟩
        go_wp2_with fail
        go_round
        case rel => exact ⟨k + 1, by omega, by omega, by go_num, by rw [HS.out]⟩
        case measure => simp [intOf]; omega
    · obtain rfl : k = 13 := by omega
      have hl : lastV i 13 = partV i := by
        have := last_part ⟨i.toNat, by omega⟩
        simpa [show ((i.toNat : Nat) : Int) = i from by omega] using this
      rw [hl]
      clear hl hlt hk1 hk2
      go_wp2_with fail
      refine (HD.out _).mono ?_
      rintro e w2 ⟨rfl, rfl⟩
      go_wp2_with fail
      refine (HR.out _).mono ?_
      rintro e w2 ⟨rfl, rfl⟩
      go_wp2_with fail
      refine HP.out.mono ?_
      rintro e w2 ⟨rfl, rfl⟩
      go_wp2_with fail
      refine HA.out.mono ?_
      rintro e w2 ⟨rfl, hn⟩
      have HN := hid hn
      clear hn
      go_wp2_with fail
      go_ret
      exact ⟨rfl, HN.out⟩
end Go.Proofs.YtaclfphflhjpoaaGreatDoor
