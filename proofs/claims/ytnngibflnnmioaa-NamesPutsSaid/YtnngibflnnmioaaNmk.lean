/-
  Names of the document as the program's: all of them.
-/
import Derived.Test.YtnngibflnnmioaaNmj
namespace Go.Proofs.Ytnngibflnnmioaa
open Go.RowKit Go.Proofs.Leb Go.Proofs.Own
set_option maxRecDepth 100000
set_option maxHeartbeats 8000000

theorem nsOne {N : Nms} {a a' : Option Addr} {n n' c c' : Nat} : (#[.bool N.hm, .bool N.hf, .bool N.hl, .string N.md, .slice a n c, .slice a' n' c'] : Array Value).all (·.oneCell') = true := by simp [Value.oneCell']
theorem boxStp {K : Act → World → Prop} {a : Act} {W : World} {o : Obj} (h : ∀ W2, New W W2 → W2.heap[W.heap.size]? = some o → K a W2) : K a (W.alloc o) :=
  h _ ((Upd.refl _ _).alloc _) (hp_new rfl)
theorem infoNs : (Try.prog.info? 50).map (·.size) = some 6 := by kernel_rfl
theorem infoRNs : (Try.prog.info? 45).map (·.size) = some 6 := by kernel_rfl
theorem NBox.lt {w : World} {g : Nat} {N : Nms} {f l : Value} {T : TypeId} (h : NBox w g N f l T) : g < w.heap.size := (Array.getElem?_eq_some_iff.1 h).1
theorem NBox.set5 {w : World} {g : Nat} {N : Nms} {f l l' : Value} {T : TypeId} (h : NBox w g N f l T) : NBox (w.setCell ⟨g, 5, none⟩ l') g N f l' T := by
  unfold NBox at h ⊢
  simp [World.setCell, Array.getElem?_modify, h]
theorem NBox.put {w : World} {g : Nat} {N : Nms} {f l : Value} {T : TypeId} (h : NBox w g N f l T) (M : Nms) (f' l' : Value) :
    NBox ((((((w.setCell ⟨g, 0, none⟩ (.bool M.hm)).setCell ⟨g, 1, none⟩ (.bool M.hf)).setCell ⟨g, 2, none⟩ (.bool M.hl)).setCell ⟨g, 3, none⟩ (.string M.md)).setCell ⟨g, 4, none⟩ f').setCell ⟨g, 5, none⟩ l') g M f' l' T := by
  unfold NBox at h ⊢
  simp [World.setCell, Array.getElem?_modify, h]
theorem set6 (w : World) (g : Nat) (x0 x1 x2 x3 x4 x5 : Value) : Upd (fun k => k = g) w ((((((w.setCell ⟨g, 0, none⟩ x0).setCell ⟨g, 1, none⟩ x1).setCell ⟨g, 2, none⟩ x2).setCell ⟨g, 3, none⟩ x3).setCell ⟨g, 4, none⟩ x4).setCell ⟨g, 5, none⟩ x5) := by
  refine Upd.setCell (S := fun k => k = g) (p := ⟨g, 5, none⟩) ?_ (.inr rfl) x5
  refine Upd.setCell (S := fun k => k = g) (p := ⟨g, 4, none⟩) ?_ (.inr rfl) x4
  refine Upd.setCell (S := fun k => k = g) (p := ⟨g, 3, none⟩) ?_ (.inr rfl) x3
  refine Upd.setCell (S := fun k => k = g) (p := ⟨g, 2, none⟩) ?_ (.inr rfl) x2
  refine Upd.setCell (S := fun k => k = g) (p := ⟨g, 1, none⟩) ?_ (.inr rfl) x1
  refine Upd.setCell (S := fun k => k = g) (p := ⟨g, 0, none⟩) ?_ (.inr rfl) x0
  exact Upd.refl _ _
theorem NBox.new {w w' : World} {g : Nat} {N : Nms} {f l : Value} {T : TypeId} (h : NBox w g N f l T) (hn : New w w') : NBox w' g N f l T := hp1 h hn
def ZeroN : Nms := ⟨false, false, false, ⟨#[]⟩, [], []⟩
/-- what holds between the steps -/
def NS (w : World) (N : Nms) (f l : Value) (w' : World) : Prop :=
  New w w' ∧ NBox w' w.heap.size N f l 45 ∧ NBox w' (w.heap.size + 1) ZeroN (.slice none 0 0) (.slice none 0 0) 50 ∧ w.heap.size + 2 ≤ w'.heap.size
theorem NS.new {w : World} {N : Nms} {f l : Value} {a b : World} (h : NS w N f l a) (k : New a b) : NS w N f l b := ⟨New.trans h.1 k, hp1 h.2.1 k, hp1 h.2.2.1 k, Nat.le_trans h.2.2.2 k.size⟩
theorem NS.set {w a b : World} {N : Nms} {f l : Value} {g : Nat} (h : NS w N f l a) (hu : Upd (fun k => k = g) a b) (hg : w.heap.size + 2 ≤ g) : NS w N f l b :=
  ⟨Upd.trans h.1 hu (fun i hi e => absurd hi (by omega)), (hu.block w.heap.size (by have := h.2.2.2; omega) (by omega)).trans h.2.1, (hu.block (w.heap.size + 1) (by have := h.2.2.2; omega) (by omega)).trans h.2.2.1, Nat.le_trans h.2.2.2 hu.size⟩
/-- memory made between two sizes of the heap, but in one block -/
def Betw (x y g : Nat) : Nat → Prop := fun k => (x ≤ k ∧ k < y) ∧ k ≠ g
/-- the names at the loop's begin -/
def NAt (w : World) (N : Nms) (f l : Value) (g : Nat) (fv : Value) (w' : World) : Prop :=
  NS w N f l w' ∧ NBox w' g N fv (.slice none 0 0) 50 ∧ RdE 2 (E2 FN) w' (Betw (w.heap.size + 2) w'.heap.size g) fv N.fs ∧ w.heap.size + 2 ≤ g
/-- and in it -/
def NIn (w : World) (N : Nms) (f l : Value) (g : Nat) (fv : Value) (w4 w' : World) (lv : Value) (ls : List (Nat × List (Nat × ByteArray))) : Prop :=
  NBox w' g N fv lv 50 ∧ OwE 91 2 (E2 FL) (fun k => w4.heap.size ≤ k) w' lv ls ∧ Fresh w4 lv ∧ Upd (fun k => k = g) w4 w'
theorem NIn.ns {w w4 w' : World} {N : Nms} {f l fv lv : Value} {g : Nat} {ls : List (Nat × List (Nat × ByteArray))} (h0 : NAt w N f l g fv w4) (h : NIn w N f l g fv w4 w' lv ls) : NS w N f l w' := h0.1.set h.2.2.2 h0.2.2.2
theorem NIn.start {w w4 : World} {N : Nms} {f l fv : Value} {g : Nat} (h : NAt w N f l g fv w4) : NIn w N f l g fv w4 w4 (.slice none 0 0) [] :=
  ⟨h.2.1, OwE.nil, (fun k h => by cases h), Upd.refl _ _⟩
theorem NIn.ne {w w4 w' : World} {N : Nms} {f l fv lv : Value} {g : Nat} {ls : List (Nat × List (Nat × ByteArray))} (h0 : NAt w N f l g fv w4) (h : NIn w N f l g fv w4 w' lv ls) : lv.ownBlock ≠ some g := fun e => by
  have h1 := h.2.2.1 g e
  have h2 := h0.2.1.lt
  omega
/-- one more: its memory made, the row laid ahead, added -/
theorem NIn.mid {w w4 a b c : World} {N : Nms} {f l fv lv lv' : Value} {g : Nat} {ls : List (Nat × List (Nat × ByteArray))} (h0 : NAt w N f l g fv w4) (h : NIn w N f l g fv w4 a lv ls) (hn : New a b) (ha : Adds b c lv lv') : Upd (fun k => k = g) w4 c ∧ NS w N f l c := by
  have hg := h0.2.1.lt
  have h1 : Upd (fun k => k = g) w4 b := Upd.trans h.2.2.2 hn (fun i hi e => absurd e (fun h => h))
  have h2 : Upd (fun k => k = g) w4 c := Upd.trans h1 ha.upd (fun i hi e => by
    have := h.2.2.1 i e
    omega)
  exact ⟨h2, h0.1.set h2 h0.2.2.2⟩
theorem NIn.push {w w4 a b c : World} {N : Nms} {f l fv lv lv' : Value} {g : Nat} {ls ls' : List (Nat × List (Nat × ByteArray))} (h0 : NAt w N f l g fv w4) (h : NIn w N f l g fv w4 a lv ls) (hn : New a b) (ha : Adds b c lv lv')
    (ho : OwE 91 2 (E2 FL) (fun k => w4.heap.size ≤ k) c lv' ls') : NIn w N f l g fv w4 (c.setCell ⟨g, 5, none⟩ lv') lv' ls' := by
  have hu4 := h.2.2.2
  have hg := h0.2.1.lt
  have hne := h.ne h0
  have h1 : Upd (fun k => k = g) w4 b := Upd.trans hu4 hn (fun i hi e => absurd e (fun h => h))
  have h2 : Upd (fun k => k = g) w4 c := Upd.trans h1 ha.upd (fun i hi e => by
    have := h.2.2.1 i e
    omega)
  have hfr : Fresh w4 lv' := by
    intro k hk
    rcases ha.at' with e | ⟨j, e, hj⟩
    · exact h.2.2.1 k (by rw [← e]; exact hk)
    · rw [e] at hk; cases hk; exact Nat.le_trans h1.size hj
  have hbox : NBox c g N fv lv 50 := hpB (hp1 h.1 hn) ha hne
  have hset : Upd (fun k => k = g) c (c.setCell ⟨g, 5, none⟩ lv') := Upd.setCell (Upd.refl (fun k => k = g) c) (p := ⟨g, 5, none⟩) (.inr rfl) _
  refine ⟨hbox.set5, ho.upd (E2.ok FL.ok) hset ?_ ?_, hfr, Upd.trans h2 hset (fun i hi e => e)⟩
  · intro k _ hk e
    omega
  · intro k hk e
    have := hfr k hk
    omega
def OwnNP (N : Nms) (w : World) (e : Ending) (w' : World) : Prop :=
  ∃ f' l', e = .returned (nv N f' l') ∧ RdE 2 (E2 FN) w' (Since w w') f' N.fs ∧ RdE 2 (E2 FL) w' (Since w w') l' N.ls ∧ New w w'

theorem own14_any {B1 B2 : Nat → Prop} (N : Nms) (f l : Value) (w : World) (h1 : RdE 2 (E2 FN) w B1 f N.fs) (h2 : RdE 2 (E2 FL) w B2 l N.ls) (hs : Sz N) :
    Calls Try.prog 15 #[nv N f l] w (OwnNP N w) := by
  have HL1 := hid (fun w' (hn : New w w') => ownList_any f N.fs w' (h1.new (E2.ok FN.ok) hn) hs.2.1.1)
  obtain ⟨a1, c1, rfl⟩ := h1.shape
  obtain ⟨a2, c2, rfl, hat2⟩ := e2_at h2
  have HAT := hid hat2
  have HZ2 := hid hs.2.2.2
  have hz1 := hs.2.2.1
  clear h1 h2 hat2 hs
  obtain ⟨w0, hw0⟩ : ∃ w0, (w.alloc (.cells #[.bool N.hm, .bool N.hf, .bool N.hl, .string N.md, .slice a1 N.fs.length c1, .slice a2 N.ls.length c2] 45)).alloc (.cells #[.bool false, .bool false, .bool false, .string ⟨#[]⟩, .slice none 0 0, .slice none 0 0] 50) = w0 := ⟨_, rfl⟩
  have HS0 : Hid (NS w N (.slice a1 N.fs.length c1) (.slice a2 N.ls.length c2) w0) := by
    show NS _ _ _ _ _
    rw [← hw0]
    exact ⟨((Upd.refl _ _).alloc _).alloc _, hp_old (by simp) (hp_new rfl), hp_new (by simp), by simp⟩
  obtain ⟨hm, hf, hl, md, fs, ls⟩ := N
  obtain ⟨N, hN⟩ : ∃ N : Nms, N = ⟨hm, hf, hl, md, fs, ls⟩ := ⟨_, rfl⟩
  unfold nv
  simp only at *
  have HNN := hid hN
  have HW := hid hw0
  rw [← hN] at HS0
  have HCC : Hid (∀ w', NS w N (.slice a1 fs.length c1) (.slice a2 ls.length c2) w' → w'.cell? ⟨w.heap.size, 0, none⟩ = some (.bool hm) ∧ w'.cell? ⟨w.heap.size, 1, none⟩ = some (.bool hf) ∧ w'.cell? ⟨w.heap.size, 2, none⟩ = some (.bool hl) ∧
      w'.cell? ⟨w.heap.size, 3, none⟩ = some (.string md) ∧ w'.cell? ⟨w.heap.size, 4, none⟩ = some (.slice a1 fs.length c1) ∧ w'.cell? ⟨w.heap.size, 5, none⟩ = some (.slice a2 ls.length c2)) := by
    show ∀ w', _
    intro w' h
    have := h.2.1.cs
    rw [HNN.out] at this
    exact this
  clear hw0 hN
  go_enter Try.func15, Try.ntmps15
  go_upto_region 1 with fail
  rw [HW.out]
  clear HW
  go_cut [3] (fun t wx => ∃ g fv, t = .pointer (some ⟨g, 0, none⟩) ∧ NAt w N (.slice a1 fs.length c1) (.slice a2 ls.length c2) g fv wx)
  case first =>
    have hn : NS w N (.slice a1 fs.length c1) (.slice a2 ls.length c2) w0.drew := HS0.out.new (Upd.refl _ _).drew
    refine wp_region_noPanic ?_
    refine wp_region_held_drew (S := (NS w N (.slice a1 fs.length c1) (.slice a2 ls.length c2))) (by kernel_rfl) (by first | exact hn | exact (Upd.refl _ _).drew | exact Upd.drew (by assumption)) (fun hn => ?_)
    generalize w0.drew = wd at *
    refine wpAnyH_take (i := 0) (oi := { dst := some 5, op := Op.fieldAddr 45 (Operand.tmp 1) 0, type := 0, pos := "law.go:32", after := #[], guard := none }) (v := ?v50x1) rfl (by kernel_rfl) (by kernel_rfl) (by kernel_rfl) (fun _ _ _ h => h) (Or.inl ⟨by rfl, ?y50x1⟩) hn ?r50x1
    case y50x1 => (intro wS hS; (try go_simp); (try with_reducible rfl))
    try simp only [Act.put, List.setIfInBounds_toArray, List.set_cons_zero, List.set_cons_succ]
    refine wpAnyH_take (i := 1) (oi := { dst := some 6, op := Op.load 4 (Operand.tmp 5), type := 4, pos := "law.go:32", after := #[{ on := 0, ground := Ground.data }], guard := none }) (v := ?v50x2) rfl (by kernel_rfl) (by kernel_rfl) (by kernel_rfl) (fun _ _ _ h => h) (Or.inl ⟨by rfl, ?y50x2⟩) hn ?r50x2
    case y50x2 => (intro wS hS; have c0 := (HCC.out _ hS).1; (try go_simp); (try with_reducible rfl))
    try simp only [Act.put, List.setIfInBounds_toArray, List.set_cons_zero, List.set_cons_succ]
    refine wpAnyH_take (i := 2) (oi := { dst := some 7, op := Op.fieldAddr 45 (Operand.tmp 1) 1, type := 0, pos := "law.go:32", after := #[], guard := none }) (v := ?v50x3) rfl (by kernel_rfl) (by kernel_rfl) (by kernel_rfl) (fun _ _ _ h => h) (Or.inl ⟨by rfl, ?y50x3⟩) hn ?r50x3
    case y50x3 => (intro wS hS; (try go_simp); (try with_reducible rfl))
    try simp only [Act.put, List.setIfInBounds_toArray, List.set_cons_zero, List.set_cons_succ]
    refine wpAnyH_take (i := 3) (oi := { dst := some 8, op := Op.load 4 (Operand.tmp 7), type := 4, pos := "law.go:32", after := #[{ on := 2, ground := Ground.data }], guard := none }) (v := ?v50x4) rfl (by kernel_rfl) (by kernel_rfl) (by kernel_rfl) (fun _ _ _ h => h) (Or.inl ⟨by rfl, ?y50x4⟩) hn ?r50x4
    case y50x4 => (intro wS hS; have c0 := (HCC.out _ hS).2.1; (try go_simp); (try with_reducible rfl))
    try simp only [Act.put, List.setIfInBounds_toArray, List.set_cons_zero, List.set_cons_succ]
    refine wpAnyH_take (i := 4) (oi := { dst := some 9, op := Op.fieldAddr 45 (Operand.tmp 1) 2, type := 0, pos := "law.go:32", after := #[], guard := none }) (v := ?v50x5) rfl (by kernel_rfl) (by kernel_rfl) (by kernel_rfl) (fun _ _ _ h => h) (Or.inl ⟨by rfl, ?y50x5⟩) hn ?r50x5
    case y50x5 => (intro wS hS; (try go_simp); (try with_reducible rfl))
    try simp only [Act.put, List.setIfInBounds_toArray, List.set_cons_zero, List.set_cons_succ]
    refine wpAnyH_take (i := 5) (oi := { dst := some 10, op := Op.load 4 (Operand.tmp 9), type := 4, pos := "law.go:32", after := #[{ on := 4, ground := Ground.data }], guard := none }) (v := ?v50x6) rfl (by kernel_rfl) (by kernel_rfl) (by kernel_rfl) (fun _ _ _ h => h) (Or.inl ⟨by rfl, ?y50x6⟩) hn ?r50x6
    case y50x6 => (intro wS hS; have c0 := (HCC.out _ hS).2.2.1; (try go_simp); (try with_reducible rfl))
    try simp only [Act.put, List.setIfInBounds_toArray, List.set_cons_zero, List.set_cons_succ]
    refine wpAnyH_take (i := 6) (oi := { dst := some 11, op := Op.fieldAddr 45 (Operand.tmp 1) 3, type := 0, pos := "law.go:32", after := #[], guard := none }) (v := ?v50x7) rfl (by kernel_rfl) (by kernel_rfl) (by kernel_rfl) (fun _ _ _ h => h) (Or.inl ⟨by rfl, ?y50x7⟩) hn ?r50x7
    case y50x7 => (intro wS hS; (try go_simp); (try with_reducible rfl))
    try simp only [Act.put, List.setIfInBounds_toArray, List.set_cons_zero, List.set_cons_succ]
    refine wpAnyH_take (i := 7) (oi := { dst := some 12, op := Op.load 9 (Operand.tmp 11), type := 9, pos := "law.go:32", after := #[{ on := 6, ground := Ground.data }], guard := none }) (v := ?v50x8) rfl (by kernel_rfl) (by kernel_rfl) (by kernel_rfl) (fun _ _ _ h => h) (Or.inl ⟨by rfl, ?y50x8⟩) hn ?r50x8
    case y50x8 => (intro wS hS; have c0 := (HCC.out _ hS).2.2.2.1; (try go_simp); (try with_reducible rfl))
    try simp only [Act.put, List.setIfInBounds_toArray, List.set_cons_zero, List.set_cons_succ]
    refine wpAnyH_take (i := 8) (oi := { dst := some 13, op := Op.fieldAddr 45 (Operand.tmp 1) 4, type := 0, pos := "law.go:32", after := #[], guard := none }) (v := ?v50x9) rfl (by kernel_rfl) (by kernel_rfl) (by kernel_rfl) (fun _ _ _ h => h) (Or.inl ⟨by rfl, ?y50x9⟩) hn ?r50x9
    case y50x9 => (intro wS hS; (try go_simp); (try with_reducible rfl))
    try simp only [Act.put, List.setIfInBounds_toArray, List.set_cons_zero, List.set_cons_succ]
    refine wpAnyH_take (i := 9) (oi := { dst := some 14, op := Op.load 42 (Operand.tmp 13), type := 42, pos := "law.go:32", after := #[{ on := 8, ground := Ground.data }], guard := none }) (v := ?v50x10) rfl (by kernel_rfl) (by kernel_rfl) (by kernel_rfl) (fun _ _ _ h => h) (Or.inl ⟨by rfl, ?y50x10⟩) hn ?r50x10
    case y50x10 => (intro wS hS; have c0 := (HCC.out _ hS).2.2.2.2.1; (try go_simp); (try with_reducible rfl))
    try simp only [Act.put, List.setIfInBounds_toArray, List.set_cons_zero, List.set_cons_succ]
    refine wpAnyH_ready (rs := [10, 12]) (by kernel_rfl) (by simp) ?_
    refine AllReadyH.cons (o := { dst := some 15, op := Op.call { callee := Callee.value (Operand.func 47), args := #[Operand.tmp 14], argTypes := #[42] }, type := 47, pos := "law.go:32", after := #[{ on := 9, ground := Ground.data }], guard := none }) rfl (fun K hK => ?_) ?_
    · skip
      go_simp
      refine (HL1.out _ hn.1).mono ?_
      rintro e wq ⟨fv, rfl, hrf, hnq⟩
      obtain ⟨af, cf, rfl⟩ := hrf.shape
      go_wp2_with fail
      have hg5 := hn.2.2.2
      have hn := hn.new hnq
      refine hK.out _ _ (by first | exact hn | exact Upd.alloc hn _) (fun hn => ?_)
      clear hK K
      try simp only [Act.put, List.setIfInBounds_toArray, List.set_cons_zero, List.set_cons_succ]
      refine wpAnyH_take (i := 11) (oi := { dst := some 16, op := Op.build 50 #[(0, Operand.tmp 6), (1, Operand.tmp 8), (2, Operand.tmp 10), (3, Operand.tmp 12), (4, Operand.tmp 15)], type := 50, pos := "law.go:32", after := #[{ on := 1, ground := Ground.data }, { on := 3, ground := Ground.data }, { on := 5, ground := Ground.data }, { on := 7, ground := Ground.data }, { on := 10, ground := Ground.data }], guard := none }) (v := ?v50x11) rfl (by kernel_rfl) (by kernel_rfl) (by kernel_rfl) (fun _ _ _ h => h) (Or.inl ⟨by rfl, ?y50x11⟩) hn ?r50x11
      case y50x11 => (intro wS hS; (try go_simp); (try with_reducible rfl))
      try simp only [Act.put, List.setIfInBounds_toArray, List.set_cons_zero, List.set_cons_succ]
      refine wpAnyH_ready (rs := [12]) (by kernel_rfl) (by simp) ?_
      refine AllReadyH.cons (o := { dst := some 3, op := Op.alloc 50, type := 0, pos := "law.go:32", after := #[], guard := none }) rfl (fun K hK => ?_) AllReadyH.nil
      go_simp
      refine boxStp ?_
      intro ws hnr hz
      have hg5 := hn.2.2.2
      have hsz := hnr.size
      have hlt := (Array.getElem?_eq_some_iff.1 hz).1
      have hrb : RdE 2 (E2 FN) ws (Betw (w.heap.size + 2) ws.heap.size wq.heap.size) (.slice af fs.length cf) fs := (hrf.new (E2.ok FN.ok) hnr).mono (E2.ok FN.ok) (fun k hk => ⟨⟨by have := hk.1; have := hnq.size; omega, by have := hk.2; omega⟩, by have := hk.2; omega⟩)
      have hn := hn.new hnr
      refine hK.out _ _ (by first | exact hn | exact Upd.alloc hn _) (fun hn => ?_)
      clear hK K
      try simp only [Act.put, List.setIfInBounds_toArray, List.set_cons_zero, List.set_cons_succ]
      refine wpAnyH_ready (rs := [13]) (by kernel_rfl) (by simp) ?_
      refine AllReadyH.cons (o := { dst := none, op := Op.store 50 (Operand.tmp 3) (Operand.tmp 16), type := 0, pos := "law.go:32", after := #[{ on := 12, ground := Ground.data }, { on := 11, ground := Ground.data }, { on := 10, ground := Ground.chain }, { on := 0, ground := Ground.phase }, { on := 1, ground := Ground.phase }, { on := 2, ground := Ground.phase }, { on := 3, ground := Ground.phase }, { on := 4, ground := Ground.phase }, { on := 5, ground := Ground.phase }, { on := 6, ground := Ground.phase }, { on := 7, ground := Ground.phase }, { on := 8, ground := Ground.phase }, { on := 9, ground := Ground.phase }, { on := 10, ground := Ground.phase }, { on := 11, ground := Ground.phase }, { on := 12, ground := Ground.phase }], guard := none }) rfl (fun K hK => ?_) AllReadyH.nil
      refine step_store_row 50 _ _ rfl rfl _ #[.bool hm, .bool hf, .bool hl, .string md, .slice af fs.length cf, .slice none 0 0] rfl rfl 50 _ hz infoNs rfl (by simp [Value.oneCell']) ?_
      obtain ⟨hus, hbs⟩ := run_setRow (cs := #[.bool hm, .bool hf, .bool hl, .string md, .slice af fs.length cf, .slice none 0 0]) hz
      have hn := hn.set hus hg5
      have hrb := hrb.upd (E2.ok FN.ok) hus (fun k hk => hk.2)
      have hsz2 := hus.size
      refine hK.out _ _ (by first | exact hn | exact Upd.alloc hn _) (fun hn => ?_)
      clear hK K
      try simp only [Act.put, List.setIfInBounds_toArray, List.set_cons_zero, List.set_cons_succ]
      refine wpAnyH_done (by kernel_rfl) ?_ _
      refine NoPanic.normal ?_
      go_wp2_with fail
      go_meet
      refine ⟨_, .slice af fs.length cf, rfl, hn, ?_, ?_, hg5⟩
      (rw [HNN.out]; exact hbs)
      (rw [HNN.out]; exact hrb.mono (E2.ok FN.ok) (fun k hk => ⟨⟨hk.1.1, Nat.lt_of_lt_of_le hk.1.2 hsz2⟩, hk.2⟩))
    refine AllReadyH.cons (o := { dst := some 3, op := Op.alloc 50, type := 0, pos := "law.go:32", after := #[], guard := none }) rfl (fun K hK => ?_) AllReadyH.nil
    go_simp
    refine boxStp ?_
    intro ws hnr hz
    have hg5 := hn.2.2.2
    have hlt := (Array.getElem?_eq_some_iff.1 hz).1
    have hn := hn.new hnr
    refine hK.out _ _ (by first | exact hn | exact Upd.alloc hn _) (fun hn => ?_)
    clear hK K
    try simp only [Act.put, List.setIfInBounds_toArray, List.set_cons_zero, List.set_cons_succ]
    refine wpAnyH_ready (rs := [10]) (by kernel_rfl) (by simp) ?_
    refine AllReadyH.cons (o := { dst := some 15, op := Op.call { callee := Callee.value (Operand.func 47), args := #[Operand.tmp 14], argTypes := #[42] }, type := 47, pos := "law.go:32", after := #[{ on := 9, ground := Ground.data }], guard := none }) rfl (fun K hK => ?_) AllReadyH.nil
    go_simp
    refine (HL1.out _ hn.1).mono ?_
    rintro e wq ⟨fv, rfl, hrf, hnq⟩
    obtain ⟨af, cf, rfl⟩ := hrf.shape
    go_wp2_with fail
    have hz := hp1 hz hnq
    have hn := hn.new hnq
    have hrb : RdE 2 (E2 FN) wq (Betw (w.heap.size + 2) wq.heap.size wd.heap.size) (.slice af fs.length cf) fs := hrf.mono (E2.ok FN.ok) (fun k hk => ⟨⟨by have := hk.1; omega, hk.2⟩, by have := hk.1; omega⟩)
    refine hK.out _ _ (by first | exact hn | exact Upd.alloc hn _) (fun hn => ?_)
    clear hK K
    try simp only [Act.put, List.setIfInBounds_toArray, List.set_cons_zero, List.set_cons_succ]
    refine wpAnyH_take (i := 11) (oi := { dst := some 16, op := Op.build 50 #[(0, Operand.tmp 6), (1, Operand.tmp 8), (2, Operand.tmp 10), (3, Operand.tmp 12), (4, Operand.tmp 15)], type := 50, pos := "law.go:32", after := #[{ on := 1, ground := Ground.data }, { on := 3, ground := Ground.data }, { on := 5, ground := Ground.data }, { on := 7, ground := Ground.data }, { on := 10, ground := Ground.data }], guard := none }) (v := ?v50x12) rfl (by kernel_rfl) (by kernel_rfl) (by kernel_rfl) (fun _ _ _ h => h) (Or.inl ⟨by rfl, ?y50x12⟩) hn ?r50x12
    case y50x12 => (intro wS hS; (try go_simp); (try with_reducible rfl))
    try simp only [Act.put, List.setIfInBounds_toArray, List.set_cons_zero, List.set_cons_succ]
    refine wpAnyH_ready (rs := [13]) (by kernel_rfl) (by simp) ?_
    refine AllReadyH.cons (o := { dst := none, op := Op.store 50 (Operand.tmp 3) (Operand.tmp 16), type := 0, pos := "law.go:32", after := #[{ on := 12, ground := Ground.data }, { on := 11, ground := Ground.data }, { on := 10, ground := Ground.chain }, { on := 0, ground := Ground.phase }, { on := 1, ground := Ground.phase }, { on := 2, ground := Ground.phase }, { on := 3, ground := Ground.phase }, { on := 4, ground := Ground.phase }, { on := 5, ground := Ground.phase }, { on := 6, ground := Ground.phase }, { on := 7, ground := Ground.phase }, { on := 8, ground := Ground.phase }, { on := 9, ground := Ground.phase }, { on := 10, ground := Ground.phase }, { on := 11, ground := Ground.phase }, { on := 12, ground := Ground.phase }], guard := none }) rfl (fun K hK => ?_) AllReadyH.nil
    refine step_store_row 50 _ _ rfl rfl _ #[.bool hm, .bool hf, .bool hl, .string md, .slice af fs.length cf, .slice none 0 0] rfl rfl 50 _ hz infoNs rfl (by simp [Value.oneCell']) ?_
    obtain ⟨hus, hbs⟩ := run_setRow (cs := #[.bool hm, .bool hf, .bool hl, .string md, .slice af fs.length cf, .slice none 0 0]) hz
    have hn := hn.set hus hg5
    have hrb := hrb.upd (E2.ok FN.ok) hus (fun k hk => hk.2)
    have hsz2 := hus.size
    refine hK.out _ _ (by first | exact hn | exact Upd.alloc hn _) (fun hn => ?_)
    clear hK K
    try simp only [Act.put, List.setIfInBounds_toArray, List.set_cons_zero, List.set_cons_succ]
    refine wpAnyH_done (by kernel_rfl) ?_ _
    refine NoPanic.normal ?_
    go_wp2_with fail
    go_meet
    refine ⟨_, .slice af fs.length cf, rfl, hn, ?_, ?_, hg5⟩
    (rw [HNN.out]; exact hbs)
    (rw [HNN.out]; exact hrb.mono (E2.ok FN.ok) (fun k hk => ⟨⟨hk.1.1, Nat.lt_of_lt_of_le hk.1.2 hsz2⟩, hk.2⟩))
  case rest =>
  obtain ⟨g, fv, rfl, hna⟩ := hcut
  obtain ⟨w4, rfl⟩ : ∃ w4, w4 = wc := ⟨_, rfl⟩
  have HNA := hid hna
  obtain ⟨af, cf, rfl⟩ : ∃ af cf, fv = .slice af fs.length cf := by
    have := hna.2.2.1.shape
    rw [HNN.out] at this
    exact this
  clear hna HS0 HL1
  go_wp2_with fail
  go_loopw [4] (fun c wr => ∃ (i : Nat) (lv : Value), c = .int .i64 i ∧ i ≤ ls.length ∧ NIn w N (.slice a1 fs.length c1) (.slice a2 ls.length c2) g (.slice af fs.length cf) w4 wr lv (ls.take i)) (fun c _ => ls.length - (intOf c).toNat)
  case atStart => exact ⟨0, _, rfl, by omega, NIn.start HNA.out⟩
  case round =>
    obtain ⟨i, lv, rfl, hi1, hin⟩ := hrel
    have hns := NIn.ns HNA.out hin
    obtain ⟨k0, k1, k2, k3, k4, k5⟩ := HCC.out _ hns
    by_cases hi : i < ls.length
    · obtain ⟨b, o, u, rfl, hc0, hc1, hu⟩ := HAT.out i hi
      have hg1 : ls[i]? = some ls[i] := List.getElem?_eq_getElem hi
      have hg2 : (ls.take i).length ≤ 10000 := by simp; omega
      have hg3 : ls.take (i + 1) = ls.take i ++ [ls[i]] := by rw [List.take_add_one, hg1]; rfl
      have HLC := hid (fun w' (h : New w w') => ownList_any u ls[i].2 w' (RdE.new (E2.ok FN.ok) hu h) (HZ2.out _ (List.getElem_mem hi)).1)
      obtain ⟨au, cu, rfl⟩ : ∃ au cu, u = .slice au ls[i].2.length cu := RdE.shape hu
      generalize hxe : ls[i] = x at *
      obtain ⟨n, xs⟩ := x
      simp only at hc0 hc1 HLC
      have q0 := hid (fun w' (h : New w w') => h.cell hc0 (fun h => h))
      have q1 := hid (fun w' (h : New w w') => h.cell hc1 (fun h => h))
      generalize hpe : ls.take i = pre at *
      have HG := hid hg3
      have HNS := hid hns
      have HIN := hid hin
      obtain ⟨ab, cb, rfl⟩ := hin.2.1.shape
      have HB : Hid (∀ w', New wr w' → w'.cell? ⟨g, 5, none⟩ = some (.slice ab pre.length cb)) := fun w' h => (NBox.new HIN.out.1 h).cs.2.2.2.2.2
      have HB5 : Hid (∀ w', NS w N (.slice a1 fs.length c1) (.slice (some ⟨b, o, none⟩) ls.length c2) w' → w'.cell? ⟨w.heap.size, 5, none⟩ = some (.slice (some ⟨b, o, none⟩) ls.length c2)) := fun w' h => (HCC.out _ h).2.2.2.2.2
      have hr : New wr wr.drew := (Upd.refl _ _).drew
      have hn : NS w N (.slice a1 fs.length c1) (.slice (some ⟨b, o, none⟩) ls.length c2) wr.drew := HNS.out.new hr
      have hoc : OwE 91 2 (E2 FL) (fun k => w4.heap.size ≤ k) wr.drew (Value.slice ab pre.length cb) pre := hin.2.1.new (E2.ok FL.ok) (Upd.refl _ _).drew
      clear hg1 hg3 hxe hpe hc0 hc1 hu hns hin k0 k1 k2 k3 k4 HAT
      go_wp2_with fail
      refine wp_region_noPanic ?_
      refine wp_region_held_drew (S := (NS w N (.slice a1 fs.length c1) (.slice (some ⟨b, o, none⟩) ls.length c2))) (by kernel_rfl) (by first | exact hn | exact (Upd.refl _ _).drew | exact Upd.drew (by assumption)) (fun hn => ?_)
      generalize wr.drew = wd at *
      refine wpAnyH_take (i := 0) (oi := { dst := some 24, op := Op.fieldAddr 50 (Operand.tmp 3) 5, type := 0, pos := "law.go:34", after := #[], guard := none }) (v := ?v51x1) rfl (by kernel_rfl) (by kernel_rfl) (by kernel_rfl) (fun _ _ _ h => h) (Or.inl ⟨by rfl, ?y51x1⟩) hn ?r51x1
      case y51x1 => (intro wS hS; (try go_simp); (try with_reducible rfl))
      try simp only [Act.put, List.setIfInBounds_toArray, List.set_cons_zero, List.set_cons_succ]
      refine wpAnyH_take (i := 2) (oi := { dst := some 26, op := Op.fieldAddr 45 (Operand.tmp 1) 5, type := 0, pos := "law.go:34", after := #[], guard := none }) (v := ?v51x2) rfl (by kernel_rfl) (by kernel_rfl) (by kernel_rfl) (fun _ _ _ h => h) (Or.inl ⟨by rfl, ?y51x2⟩) hn ?r51x2
      case y51x2 => (intro wS hS; (try go_simp); (try with_reducible rfl))
      try simp only [Act.put, List.setIfInBounds_toArray, List.set_cons_zero, List.set_cons_succ]
      refine wpAnyH_take (i := 3) (oi := { dst := some 27, op := Op.load 43 (Operand.tmp 26), type := 43, pos := "law.go:34", after := #[{ on := 2, ground := Ground.data }], guard := none }) (v := ?v51x3) rfl (by kernel_rfl) (by kernel_rfl) (by kernel_rfl) (fun _ _ _ h => h) (Or.inl ⟨by rfl, ?y51x3⟩) hn ?r51x3
      case y51x3 => (intro wS hS; have c0 := HB5.out _ hS; (try go_simp); (try with_reducible rfl))
      try simp only [Act.put, List.setIfInBounds_toArray, List.set_cons_zero, List.set_cons_succ]
      refine wpAnyH_take (i := 4) (oi := { dst := some 28, op := Op.move (Operand.tmp 4), type := 3, pos := "law.go:34", after := #[], guard := none }) (v := ?v51x4) rfl (by kernel_rfl) (by kernel_rfl) (by kernel_rfl) (fun _ _ _ h => h) (Or.inl ⟨by rfl, ?y51x4⟩) hn ?r51x4
      case y51x4 => (intro wS hS; (try go_simp); (try with_reducible rfl))
      try simp only [Act.put, List.setIfInBounds_toArray, List.set_cons_zero, List.set_cons_succ]
      refine wpAnyH_take (i := 5) (oi := { dst := some 29, op := Op.indexAddr 43 (Operand.tmp 27) (Operand.tmp 28), type := 0, pos := "law.go:34", after := #[{ on := 3, ground := Ground.data }, { on := 4, ground := Ground.data }], guard := none }) (v := ?v51x5) rfl (by kernel_rfl) (by kernel_rfl) (by kernel_rfl) (fun _ _ _ h => h) (Or.inl ⟨by rfl, ?y51x5⟩) hn ?r51x5
      case y51x5 => (intro wS hS; (try go_simp); (try with_reducible rfl))
      try simp only [Act.put, List.setIfInBounds_toArray, List.set_cons_zero, List.set_cons_succ]
      refine wpAnyH_take (i := 6) (oi := { dst := some 30, op := Op.fieldAddr 88 (Operand.tmp 29) 0, type := 0, pos := "law.go:34", after := #[{ on := 5, ground := Ground.data }], guard := none }) (v := ?v51x6) rfl (by kernel_rfl) (by kernel_rfl) (by kernel_rfl) (fun _ _ _ h => h) (Or.inl ⟨by rfl, ?y51x6⟩) hn ?r51x6
      case y51x6 => (intro wS hS; (try go_simp); (try with_reducible rfl))
      try simp only [Act.put, List.setIfInBounds_toArray, List.set_cons_zero, List.set_cons_succ]
      refine wpAnyH_take (i := 7) (oi := { dst := some 31, op := Op.load 22 (Operand.tmp 30), type := 22, pos := "law.go:34", after := #[{ on := 6, ground := Ground.data }], guard := none }) (v := ?v51x7) rfl (by kernel_rfl) (by kernel_rfl) (by kernel_rfl) (fun _ _ _ h => h) (Or.inl ⟨by rfl, ?y51x7⟩) hn ?r51x7
      case y51x7 => (intro wS hS; have c0 := HB5.out _ hS; have c1 := q0.out _ hS.1; (try go_simp); (try with_reducible rfl))
      try simp only [Act.put, List.setIfInBounds_toArray, List.set_cons_zero, List.set_cons_succ]
      refine wpAnyH_take (i := 8) (oi := { dst := some 32, op := Op.fieldAddr 45 (Operand.tmp 1) 5, type := 0, pos := "law.go:34", after := #[], guard := none }) (v := ?v51x8) rfl (by kernel_rfl) (by kernel_rfl) (by kernel_rfl) (fun _ _ _ h => h) (Or.inl ⟨by rfl, ?y51x8⟩) hn ?r51x8
      case y51x8 => (intro wS hS; (try go_simp); (try with_reducible rfl))
      try simp only [Act.put, List.setIfInBounds_toArray, List.set_cons_zero, List.set_cons_succ]
      refine wpAnyH_take (i := 9) (oi := { dst := some 33, op := Op.load 43 (Operand.tmp 32), type := 43, pos := "law.go:34", after := #[{ on := 8, ground := Ground.data }], guard := none }) (v := ?v51x9) rfl (by kernel_rfl) (by kernel_rfl) (by kernel_rfl) (fun _ _ _ h => h) (Or.inl ⟨by rfl, ?y51x9⟩) hn ?r51x9
      case y51x9 => (intro wS hS; have c0 := HB5.out _ hS; (try go_simp); (try with_reducible rfl))
      try simp only [Act.put, List.setIfInBounds_toArray, List.set_cons_zero, List.set_cons_succ]
      refine wpAnyH_take (i := 10) (oi := { dst := some 34, op := Op.move (Operand.tmp 4), type := 3, pos := "law.go:34", after := #[], guard := none }) (v := ?v51x10) rfl (by kernel_rfl) (by kernel_rfl) (by kernel_rfl) (fun _ _ _ h => h) (Or.inl ⟨by rfl, ?y51x10⟩) hn ?r51x10
      case y51x10 => (intro wS hS; (try go_simp); (try with_reducible rfl))
      try simp only [Act.put, List.setIfInBounds_toArray, List.set_cons_zero, List.set_cons_succ]
      refine wpAnyH_take (i := 11) (oi := { dst := some 35, op := Op.indexAddr 43 (Operand.tmp 33) (Operand.tmp 34), type := 0, pos := "law.go:34", after := #[{ on := 9, ground := Ground.data }, { on := 10, ground := Ground.data }], guard := none }) (v := ?v51x11) rfl (by kernel_rfl) (by kernel_rfl) (by kernel_rfl) (fun _ _ _ h => h) (Or.inl ⟨by rfl, ?y51x11⟩) hn ?r51x11
      case y51x11 => (intro wS hS; (try go_simp); (try with_reducible rfl))
      try simp only [Act.put, List.setIfInBounds_toArray, List.set_cons_zero, List.set_cons_succ]
      refine wpAnyH_take (i := 12) (oi := { dst := some 36, op := Op.fieldAddr 88 (Operand.tmp 35) 1, type := 0, pos := "law.go:34", after := #[{ on := 11, ground := Ground.data }], guard := none }) (v := ?v51x12) rfl (by kernel_rfl) (by kernel_rfl) (by kernel_rfl) (fun _ _ _ h => h) (Or.inl ⟨by rfl, ?y51x12⟩) hn ?r51x12
      case y51x12 => (intro wS hS; (try go_simp); (try with_reducible rfl))
      try simp only [Act.put, List.setIfInBounds_toArray, List.set_cons_zero, List.set_cons_succ]
      refine wpAnyH_take (i := 13) (oi := { dst := some 37, op := Op.load 42 (Operand.tmp 36), type := 42, pos := "law.go:34", after := #[{ on := 12, ground := Ground.data }], guard := none }) (v := ?v51x13) rfl (by kernel_rfl) (by kernel_rfl) (by kernel_rfl) (fun _ _ _ h => h) (Or.inl ⟨by rfl, ?y51x13⟩) hn ?r51x13
      case y51x13 => (intro wS hS; have c0 := HB5.out _ hS; have c1 := q1.out _ hS.1; (try go_simp); (try with_reducible rfl))
      try simp only [Act.put, List.setIfInBounds_toArray, List.set_cons_zero, List.set_cons_succ]
      refine wpAnyH_ready (rs := [1, 14]) (by kernel_rfl) (by simp) ?_
      refine AllReadyH.cons (o := { dst := some 25, op := Op.load 48 (Operand.tmp 24), type := 48, pos := "law.go:34", after := #[{ on := 0, ground := Ground.data }], guard := none }) rfl (fun K hK => ?_) ?_
      · skip
        have c0 := HB.out _ hr
        go_simp
        refine hK.out _ _ (by first | exact hn | exact Upd.alloc hn _) (fun hn => ?_)
        clear hK K
        try simp only [Act.put, List.setIfInBounds_toArray, List.set_cons_zero, List.set_cons_succ]
        refine wpAnyH_ready (rs := [14]) (by kernel_rfl) (by simp) ?_
        refine AllReadyH.cons (o := { dst := some 38, op := Op.call { callee := Callee.value (Operand.func 47), args := #[Operand.tmp 37], argTypes := #[42] }, type := 47, pos := "law.go:34", after := #[{ on := 13, ground := Ground.data }], guard := none }) rfl (fun K hK => ?_) AllReadyH.nil
        go_simp
        refine (HLC.out _ hn.1).mono ?_
        rintro e wq ⟨uv, rfl, hrv, hnq⟩
        obtain ⟨av, cv, rfl⟩ := hrv.shape
        go_wp2_with fail
        have hoc0 := hoc
        have hoc := hoc.new (E2.ok FL.ok) hnq
        have hr0 := hr
        have hr := hr.trans hnq
        have hn := hn.new hnq
        refine hK.out _ _ (by first | exact hn | exact Upd.alloc hn _) (fun hn => ?_)
        clear hK K
        try simp only [Act.put, List.setIfInBounds_toArray, List.set_cons_zero, List.set_cons_succ]
        refine wpAnyH_take (i := 15) (oi := { dst := some 39, op := Op.build 91 #[(0, Operand.tmp 31), (1, Operand.tmp 38)], type := 91, pos := "law.go:34", after := #[{ on := 7, ground := Ground.data }, { on := 14, ground := Ground.data }], guard := none }) (v := ?v51x14) rfl (by kernel_rfl) (by kernel_rfl) (by kernel_rfl) (fun _ _ _ h => h) (Or.inl ⟨by rfl, ?y51x14⟩) hn ?r51x14
        case y51x14 => (intro wS hS; (try go_simp); (try with_reducible rfl))
        try simp only [Act.put, List.setIfInBounds_toArray, List.set_cons_zero, List.set_cons_succ]
        refine wpAnyH_ready (rs := [16]) (by kernel_rfl) (by simp) ?_
        refine AllReadyH.cons (o := { dst := some 40, op := Op.buildSlice 48 1 #[(0, Operand.tmp 39)], type := 48, pos := "law.go:34", after := #[{ on := 15, ground := Ground.data }], guard := none }) rfl (fun K hK => ?_) AllReadyH.nil
        go_simp
        refine blockStep ?_
        intro ws hnr hnb
        have hr := hr.trans hnr
        have hn := hn.new hnr
        have hoc := hoc.new (E2.ok FL.ok) hnr
        have hrv2 : RdE 2 (E2 FN) ws (Off (fun k => w4.heap.size ≤ k) ws (.slice ab pre.length cb)) (.slice av xs.length cv) xs := (hrv.new (E2.ok FN.ok) hnr).mono (E2.ok FN.ok) (fun k hk => ⟨⟨Nat.lt_of_lt_of_le hk.2 hnr.size, fun e => by have := hoc0.lt k e; have := hk.1; omega⟩, by have h1 := hk.1; have h2 := hr0.size; have h3 := HIN.out.2.2.2.size; omega⟩)
        refine hK.out _ _ (by first | exact hn | exact Upd.alloc hn _) (fun hn => ?_)
        clear hK K
        try simp only [Act.put, List.setIfInBounds_toArray, List.set_cons_zero, List.set_cons_succ]
        refine wpAnyH_ready (rs := [17]) (by kernel_rfl) (by simp) ?_
        refine AllReadyH.cons (o := { dst := some 41, op := Op.call { callee := Callee.builtin Builtin.append, args := #[Operand.tmp 25, Operand.tmp 40], argTypes := #[48, 48] }, type := 48, pos := "law.go:34", after := #[{ on := 1, ground := Ground.data }, { on := 16, ground := Ground.data }, { on := 14, ground := Ground.chain }], guard := none }) rfl (fun K hK => ?_) AllReadyH.nil
        refine step_appendE (E2.ok FL.ok) 48 91 2 32 (.agg #[.int .u32 0, .slice none 0 0]) infoLc Try.underlying48 rfl (by decide) (.tmp 25) (.tmp 40) rfl rfl _ pre rfl hoc (n, xs) [.int .u32 (n : Nat), .slice av xs.length cv] ⟨_, rfl, hrv2⟩ hnb rfl rfl (by simp [Value.oneCell']) (by unfold maxLen; omega) (by omega) ?_
        intro v' w' ho' ha
        have HP := hid (NIn.push HNA.out HIN.out hr ha ho')
        have hbx : NBox w' g N _ _ _ := hpB (hp1 HIN.out.1 hr) ha (NIn.ne HNA.out HIN.out)
        have hn := (NIn.mid HNA.out HIN.out hr ha).2
        obtain ⟨av', m', cv', rfl⟩ : ∃ a m c, v' = .slice a m c := by (obtain ⟨a, c, e⟩ := ho'.shape; exact ⟨a, _, c, e⟩)
        refine hK.out _ _ (by first | exact hn | exact Upd.alloc hn _) (fun hn => ?_)
        clear hK K
        try simp only [Act.put, List.setIfInBounds_toArray, List.set_cons_zero, List.set_cons_succ]
        refine wpAnyH_take (i := 18) (oi := { dst := some 42, op := Op.fieldAddr 50 (Operand.tmp 3) 5, type := 0, pos := "law.go:34", after := #[{ on := 0, ground := Ground.phase }, { on := 1, ground := Ground.phase }, { on := 2, ground := Ground.phase }, { on := 3, ground := Ground.phase }, { on := 4, ground := Ground.phase }, { on := 5, ground := Ground.phase }, { on := 6, ground := Ground.phase }, { on := 7, ground := Ground.phase }, { on := 8, ground := Ground.phase }, { on := 9, ground := Ground.phase }, { on := 10, ground := Ground.phase }, { on := 11, ground := Ground.phase }, { on := 12, ground := Ground.phase }, { on := 13, ground := Ground.phase }, { on := 14, ground := Ground.phase }, { on := 15, ground := Ground.phase }, { on := 16, ground := Ground.phase }, { on := 17, ground := Ground.phase }], guard := none }) (v := ?v51x15) rfl (by kernel_rfl) (by kernel_rfl) (by kernel_rfl) (fun _ _ _ h => h) (Or.inl ⟨by rfl, ?y51x15⟩) hn ?r51x15
        case y51x15 => (intro wS hS; (try go_simp); (try with_reducible rfl))
        try simp only [Act.put, List.setIfInBounds_toArray, List.set_cons_zero, List.set_cons_succ]
        refine wpAnyH_ready (rs := [19]) (by kernel_rfl) (by simp) ?_
        refine AllReadyH.cons (o := { dst := none, op := Op.store 48 (Operand.tmp 42) (Operand.tmp 41), type := 0, pos := "law.go:34", after := #[{ on := 18, ground := Ground.data }, { on := 17, ground := Ground.data }, { on := 17, ground := Ground.chain }, { on := 0, ground := Ground.phase }, { on := 1, ground := Ground.phase }, { on := 2, ground := Ground.phase }, { on := 3, ground := Ground.phase }, { on := 4, ground := Ground.phase }, { on := 5, ground := Ground.phase }, { on := 6, ground := Ground.phase }, { on := 7, ground := Ground.phase }, { on := 8, ground := Ground.phase }, { on := 9, ground := Ground.phase }, { on := 10, ground := Ground.phase }, { on := 11, ground := Ground.phase }, { on := 12, ground := Ground.phase }, { on := 13, ground := Ground.phase }, { on := 14, ground := Ground.phase }, { on := 15, ground := Ground.phase }, { on := 16, ground := Ground.phase }, { on := 17, ground := Ground.phase }], guard := none }) rfl (fun K hK => ?_) AllReadyH.nil
        have c0 := hbx.cs.2.2.2.2.2
        have c1 : w'.frozen? ⟨g, 5, none⟩ = false := by (have := hbx; unfold NBox at this; simp [World.frozen?, this])
        go_simp
        have hn := NIn.ns HNA.out HP.out
        refine hK.out _ _ (by first | exact hn | exact Upd.alloc hn _) (fun hn => ?_)
        clear hK K
        try simp only [Act.put, List.setIfInBounds_toArray, List.set_cons_zero, List.set_cons_succ]
        refine wpAnyH_done (by kernel_rfl) ?_ _
        refine NoPanic.normal ?_
        clear hn ho' ha hoc
        go_wp2_with fail
        go_roundw
        case rel => exact ⟨i + 1, _, by go_num, by omega, by rw [HG.out]; exact HP.out⟩
        case measure => (simp [intOf]; omega)
      refine AllReadyH.cons (o := { dst := some 38, op := Op.call { callee := Callee.value (Operand.func 47), args := #[Operand.tmp 37], argTypes := #[42] }, type := 47, pos := "law.go:34", after := #[{ on := 13, ground := Ground.data }], guard := none }) rfl (fun K hK => ?_) AllReadyH.nil
      go_simp
      refine (HLC.out _ hn.1).mono ?_
      rintro e wq ⟨uv, rfl, hrv, hnq⟩
      obtain ⟨av, cv, rfl⟩ := hrv.shape
      go_wp2_with fail
      have hoc0 := hoc
      have hoc := hoc.new (E2.ok FL.ok) hnq
      have hr0 := hr
      have hr := hr.trans hnq
      have hn := hn.new hnq
      refine hK.out _ _ (by first | exact hn | exact Upd.alloc hn _) (fun hn => ?_)
      clear hK K
      try simp only [Act.put, List.setIfInBounds_toArray, List.set_cons_zero, List.set_cons_succ]
      refine wpAnyH_take (i := 15) (oi := { dst := some 39, op := Op.build 91 #[(0, Operand.tmp 31), (1, Operand.tmp 38)], type := 91, pos := "law.go:34", after := #[{ on := 7, ground := Ground.data }, { on := 14, ground := Ground.data }], guard := none }) (v := ?v51x16) rfl (by kernel_rfl) (by kernel_rfl) (by kernel_rfl) (fun _ _ _ h => h) (Or.inl ⟨by rfl, ?y51x16⟩) hn ?r51x16
      case y51x16 => (intro wS hS; (try go_simp); (try with_reducible rfl))
      try simp only [Act.put, List.setIfInBounds_toArray, List.set_cons_zero, List.set_cons_succ]
      refine wpAnyH_ready (rs := [1, 16]) (by kernel_rfl) (by simp) ?_
      refine AllReadyH.cons (o := { dst := some 25, op := Op.load 48 (Operand.tmp 24), type := 48, pos := "law.go:34", after := #[{ on := 0, ground := Ground.data }], guard := none }) rfl (fun K hK => ?_) ?_
      · skip
        have c0 := HB.out _ hr
        go_simp
        refine hK.out _ _ (by first | exact hn | exact Upd.alloc hn _) (fun hn => ?_)
        clear hK K
        try simp only [Act.put, List.setIfInBounds_toArray, List.set_cons_zero, List.set_cons_succ]
        refine wpAnyH_ready (rs := [16]) (by kernel_rfl) (by simp) ?_
        refine AllReadyH.cons (o := { dst := some 40, op := Op.buildSlice 48 1 #[(0, Operand.tmp 39)], type := 48, pos := "law.go:34", after := #[{ on := 15, ground := Ground.data }], guard := none }) rfl (fun K hK => ?_) AllReadyH.nil
        go_simp
        refine blockStep ?_
        intro ws hnr hnb
        have hr := hr.trans hnr
        have hn := hn.new hnr
        have hoc := hoc.new (E2.ok FL.ok) hnr
        have hrv2 : RdE 2 (E2 FN) ws (Off (fun k => w4.heap.size ≤ k) ws (.slice ab pre.length cb)) (.slice av xs.length cv) xs := (hrv.new (E2.ok FN.ok) hnr).mono (E2.ok FN.ok) (fun k hk => ⟨⟨Nat.lt_of_lt_of_le hk.2 hnr.size, fun e => by have := hoc0.lt k e; have := hk.1; omega⟩, by have h1 := hk.1; have h2 := hr0.size; have h3 := HIN.out.2.2.2.size; omega⟩)
        refine hK.out _ _ (by first | exact hn | exact Upd.alloc hn _) (fun hn => ?_)
        clear hK K
        try simp only [Act.put, List.setIfInBounds_toArray, List.set_cons_zero, List.set_cons_succ]
        refine wpAnyH_ready (rs := [17]) (by kernel_rfl) (by simp) ?_
        refine AllReadyH.cons (o := { dst := some 41, op := Op.call { callee := Callee.builtin Builtin.append, args := #[Operand.tmp 25, Operand.tmp 40], argTypes := #[48, 48] }, type := 48, pos := "law.go:34", after := #[{ on := 1, ground := Ground.data }, { on := 16, ground := Ground.data }, { on := 14, ground := Ground.chain }], guard := none }) rfl (fun K hK => ?_) AllReadyH.nil
        refine step_appendE (E2.ok FL.ok) 48 91 2 32 (.agg #[.int .u32 0, .slice none 0 0]) infoLc Try.underlying48 rfl (by decide) (.tmp 25) (.tmp 40) rfl rfl _ pre rfl hoc (n, xs) [.int .u32 (n : Nat), .slice av xs.length cv] ⟨_, rfl, hrv2⟩ hnb rfl rfl (by simp [Value.oneCell']) (by unfold maxLen; omega) (by omega) ?_
        intro v' w' ho' ha
        have HP := hid (NIn.push HNA.out HIN.out hr ha ho')
        have hbx : NBox w' g N _ _ _ := hpB (hp1 HIN.out.1 hr) ha (NIn.ne HNA.out HIN.out)
        have hn := (NIn.mid HNA.out HIN.out hr ha).2
        obtain ⟨av', m', cv', rfl⟩ : ∃ a m c, v' = .slice a m c := by (obtain ⟨a, c, e⟩ := ho'.shape; exact ⟨a, _, c, e⟩)
        refine hK.out _ _ (by first | exact hn | exact Upd.alloc hn _) (fun hn => ?_)
        clear hK K
        try simp only [Act.put, List.setIfInBounds_toArray, List.set_cons_zero, List.set_cons_succ]
        refine wpAnyH_take (i := 18) (oi := { dst := some 42, op := Op.fieldAddr 50 (Operand.tmp 3) 5, type := 0, pos := "law.go:34", after := #[{ on := 0, ground := Ground.phase }, { on := 1, ground := Ground.phase }, { on := 2, ground := Ground.phase }, { on := 3, ground := Ground.phase }, { on := 4, ground := Ground.phase }, { on := 5, ground := Ground.phase }, { on := 6, ground := Ground.phase }, { on := 7, ground := Ground.phase }, { on := 8, ground := Ground.phase }, { on := 9, ground := Ground.phase }, { on := 10, ground := Ground.phase }, { on := 11, ground := Ground.phase }, { on := 12, ground := Ground.phase }, { on := 13, ground := Ground.phase }, { on := 14, ground := Ground.phase }, { on := 15, ground := Ground.phase }, { on := 16, ground := Ground.phase }, { on := 17, ground := Ground.phase }], guard := none }) (v := ?v51x17) rfl (by kernel_rfl) (by kernel_rfl) (by kernel_rfl) (fun _ _ _ h => h) (Or.inl ⟨by rfl, ?y51x17⟩) hn ?r51x17
        case y51x17 => (intro wS hS; (try go_simp); (try with_reducible rfl))
        try simp only [Act.put, List.setIfInBounds_toArray, List.set_cons_zero, List.set_cons_succ]
        refine wpAnyH_ready (rs := [19]) (by kernel_rfl) (by simp) ?_
        refine AllReadyH.cons (o := { dst := none, op := Op.store 48 (Operand.tmp 42) (Operand.tmp 41), type := 0, pos := "law.go:34", after := #[{ on := 18, ground := Ground.data }, { on := 17, ground := Ground.data }, { on := 17, ground := Ground.chain }, { on := 0, ground := Ground.phase }, { on := 1, ground := Ground.phase }, { on := 2, ground := Ground.phase }, { on := 3, ground := Ground.phase }, { on := 4, ground := Ground.phase }, { on := 5, ground := Ground.phase }, { on := 6, ground := Ground.phase }, { on := 7, ground := Ground.phase }, { on := 8, ground := Ground.phase }, { on := 9, ground := Ground.phase }, { on := 10, ground := Ground.phase }, { on := 11, ground := Ground.phase }, { on := 12, ground := Ground.phase }, { on := 13, ground := Ground.phase }, { on := 14, ground := Ground.phase }, { on := 15, ground := Ground.phase }, { on := 16, ground := Ground.phase }, { on := 17, ground := Ground.phase }], guard := none }) rfl (fun K hK => ?_) AllReadyH.nil
        have c0 := hbx.cs.2.2.2.2.2
        have c1 : w'.frozen? ⟨g, 5, none⟩ = false := by (have := hbx; unfold NBox at this; simp [World.frozen?, this])
        go_simp
        have hn := NIn.ns HNA.out HP.out
        refine hK.out _ _ (by first | exact hn | exact Upd.alloc hn _) (fun hn => ?_)
        clear hK K
        try simp only [Act.put, List.setIfInBounds_toArray, List.set_cons_zero, List.set_cons_succ]
        refine wpAnyH_done (by kernel_rfl) ?_ _
        refine NoPanic.normal ?_
        clear hn ho' ha hoc
        go_wp2_with fail
        go_roundw
        case rel => exact ⟨i + 1, _, by go_num, by omega, by rw [HG.out]; exact HP.out⟩
        case measure => (simp [intOf]; omega)
      refine AllReadyH.cons (o := { dst := some 40, op := Op.buildSlice 48 1 #[(0, Operand.tmp 39)], type := 48, pos := "law.go:34", after := #[{ on := 15, ground := Ground.data }], guard := none }) rfl (fun K hK => ?_) AllReadyH.nil
      go_simp
      refine blockStep ?_
      intro ws hnr hnb
      have hr := hr.trans hnr
      have hn := hn.new hnr
      have hoc := hoc.new (E2.ok FL.ok) hnr
      have hrv2 : RdE 2 (E2 FN) ws (Off (fun k => w4.heap.size ≤ k) ws (.slice ab pre.length cb)) (.slice av xs.length cv) xs := (hrv.new (E2.ok FN.ok) hnr).mono (E2.ok FN.ok) (fun k hk => ⟨⟨Nat.lt_of_lt_of_le hk.2 hnr.size, fun e => by have := hoc0.lt k e; have := hk.1; omega⟩, by have h1 := hk.1; have h2 := hr0.size; have h3 := HIN.out.2.2.2.size; omega⟩)
      refine hK.out _ _ (by first | exact hn | exact Upd.alloc hn _) (fun hn => ?_)
      clear hK K
      try simp only [Act.put, List.setIfInBounds_toArray, List.set_cons_zero, List.set_cons_succ]
      refine wpAnyH_ready (rs := [1]) (by kernel_rfl) (by simp) ?_
      refine AllReadyH.cons (o := { dst := some 25, op := Op.load 48 (Operand.tmp 24), type := 48, pos := "law.go:34", after := #[{ on := 0, ground := Ground.data }], guard := none }) rfl (fun K hK => ?_) AllReadyH.nil
      have c0 := HB.out _ hr
      go_simp
      refine hK.out _ _ (by first | exact hn | exact Upd.alloc hn _) (fun hn => ?_)
      clear hK K
      try simp only [Act.put, List.setIfInBounds_toArray, List.set_cons_zero, List.set_cons_succ]
      refine wpAnyH_ready (rs := [17]) (by kernel_rfl) (by simp) ?_
      refine AllReadyH.cons (o := { dst := some 41, op := Op.call { callee := Callee.builtin Builtin.append, args := #[Operand.tmp 25, Operand.tmp 40], argTypes := #[48, 48] }, type := 48, pos := "law.go:34", after := #[{ on := 1, ground := Ground.data }, { on := 16, ground := Ground.data }, { on := 14, ground := Ground.chain }], guard := none }) rfl (fun K hK => ?_) AllReadyH.nil
      refine step_appendE (E2.ok FL.ok) 48 91 2 32 (.agg #[.int .u32 0, .slice none 0 0]) infoLc Try.underlying48 rfl (by decide) (.tmp 25) (.tmp 40) rfl rfl _ pre rfl hoc (n, xs) [.int .u32 (n : Nat), .slice av xs.length cv] ⟨_, rfl, hrv2⟩ hnb rfl rfl (by simp [Value.oneCell']) (by unfold maxLen; omega) (by omega) ?_
      intro v' w' ho' ha
      have HP := hid (NIn.push HNA.out HIN.out hr ha ho')
      have hbx : NBox w' g N _ _ _ := hpB (hp1 HIN.out.1 hr) ha (NIn.ne HNA.out HIN.out)
      have hn := (NIn.mid HNA.out HIN.out hr ha).2
      obtain ⟨av', m', cv', rfl⟩ : ∃ a m c, v' = .slice a m c := by (obtain ⟨a, c, e⟩ := ho'.shape; exact ⟨a, _, c, e⟩)
      refine hK.out _ _ (by first | exact hn | exact Upd.alloc hn _) (fun hn => ?_)
      clear hK K
      try simp only [Act.put, List.setIfInBounds_toArray, List.set_cons_zero, List.set_cons_succ]
      refine wpAnyH_take (i := 18) (oi := { dst := some 42, op := Op.fieldAddr 50 (Operand.tmp 3) 5, type := 0, pos := "law.go:34", after := #[{ on := 0, ground := Ground.phase }, { on := 1, ground := Ground.phase }, { on := 2, ground := Ground.phase }, { on := 3, ground := Ground.phase }, { on := 4, ground := Ground.phase }, { on := 5, ground := Ground.phase }, { on := 6, ground := Ground.phase }, { on := 7, ground := Ground.phase }, { on := 8, ground := Ground.phase }, { on := 9, ground := Ground.phase }, { on := 10, ground := Ground.phase }, { on := 11, ground := Ground.phase }, { on := 12, ground := Ground.phase }, { on := 13, ground := Ground.phase }, { on := 14, ground := Ground.phase }, { on := 15, ground := Ground.phase }, { on := 16, ground := Ground.phase }, { on := 17, ground := Ground.phase }], guard := none }) (v := ?v51x18) rfl (by kernel_rfl) (by kernel_rfl) (by kernel_rfl) (fun _ _ _ h => h) (Or.inl ⟨by rfl, ?y51x18⟩) hn ?r51x18
      case y51x18 => (intro wS hS; (try go_simp); (try with_reducible rfl))
      try simp only [Act.put, List.setIfInBounds_toArray, List.set_cons_zero, List.set_cons_succ]
      refine wpAnyH_ready (rs := [19]) (by kernel_rfl) (by simp) ?_
      refine AllReadyH.cons (o := { dst := none, op := Op.store 48 (Operand.tmp 42) (Operand.tmp 41), type := 0, pos := "law.go:34", after := #[{ on := 18, ground := Ground.data }, { on := 17, ground := Ground.data }, { on := 17, ground := Ground.chain }, { on := 0, ground := Ground.phase }, { on := 1, ground := Ground.phase }, { on := 2, ground := Ground.phase }, { on := 3, ground := Ground.phase }, { on := 4, ground := Ground.phase }, { on := 5, ground := Ground.phase }, { on := 6, ground := Ground.phase }, { on := 7, ground := Ground.phase }, { on := 8, ground := Ground.phase }, { on := 9, ground := Ground.phase }, { on := 10, ground := Ground.phase }, { on := 11, ground := Ground.phase }, { on := 12, ground := Ground.phase }, { on := 13, ground := Ground.phase }, { on := 14, ground := Ground.phase }, { on := 15, ground := Ground.phase }, { on := 16, ground := Ground.phase }, { on := 17, ground := Ground.phase }], guard := none }) rfl (fun K hK => ?_) AllReadyH.nil
      have c0 := hbx.cs.2.2.2.2.2
      have c1 : w'.frozen? ⟨g, 5, none⟩ = false := by (have := hbx; unfold NBox at this; simp [World.frozen?, this])
      go_simp
      have hn := NIn.ns HNA.out HP.out
      refine hK.out _ _ (by first | exact hn | exact Upd.alloc hn _) (fun hn => ?_)
      clear hK K
      try simp only [Act.put, List.setIfInBounds_toArray, List.set_cons_zero, List.set_cons_succ]
      refine wpAnyH_done (by kernel_rfl) ?_ _
      refine NoPanic.normal ?_
      clear hn ho' ha hoc
      go_wp2_with fail
      go_roundw
      case rel => exact ⟨i + 1, _, by go_num, by omega, by rw [HG.out]; exact HP.out⟩
      case measure => (simp [intOf]; omega)
    · have e : i = ls.length := by omega
      subst e
      rw [List.take_length] at hin
      obtain ⟨ab, cb, rfl⟩ := hin.2.1.shape
      have HIN := hid hin
      have hbx : NBox wr g ⟨hm, hf, hl, md, fs, ls⟩ (.slice af fs.length cf) (.slice ab ls.length cb) 50 := by have := hin.1; rw [HNN.out] at this; exact this
      have hz := hns.2.2.1
      obtain ⟨z0, z1, z2, z3, z4, z5⟩ := hz.cs
      simp only [ZeroN] at z0 z1 z2 z3 z4 z5
      have hfz : ∀ i, wr.frozen? ⟨w.heap.size + 1, i, none⟩ = false := fun i => by (have := hz; unfold NBox at this; simp [World.frozen?, this])
      have f0 := hfz 0
      have f1 := hfz 1
      have f2 := hfz 2
      have f3 := hfz 3
      have f4 := hfz 4
      have f5 := hfz 5
      obtain ⟨y0, y1, y2, y3, y4, y5⟩ := hbx.cs
      simp only at y0 y1 y2 y3 y4 y5
      have hsz : w.heap.size + 1 < wr.heap.size := by have := hns.2.2.2; omega
      have HNS := hid hns
      have hbs := hz.put ⟨hm, hf, hl, md, fs, ls⟩ (.slice af fs.length cf) (.slice ab ls.length cb)
      simp only at hbs
      have hu := set6 wr (w.heap.size + 1) (.bool hm) (.bool hf) (.bool hl) (.string md) (.slice af fs.length cf) (.slice ab ls.length cb)
      have HBS := hid hbs
      have HU := hid hu
      clear hin k0 k1 k2 k3 k4 hfz hbx hz hns hbs hu
      go_wp2_with fail
      have hbs := HBS.out
      have hu := HU.out
      clear HBS HU
      generalize ((((((wr.setCell ⟨w.heap.size + 1, 0, none⟩ (.bool hm)).setCell ⟨w.heap.size + 1, 1, none⟩ (.bool hf)).setCell ⟨w.heap.size + 1, 2, none⟩ (.bool hl)).setCell ⟨w.heap.size + 1, 3, none⟩ (.string md)).setCell ⟨w.heap.size + 1, 4, none⟩ (.slice af fs.length cf)).setCell ⟨w.heap.size + 1, 5, none⟩ (.slice ab ls.length cb)) = wz at *
      have hg := HNA.out.2.2.2
      have h4 := HNA.out.1.2.2.2
      have hle := HIN.out.2.2.2.size
      have hle2 := hu.size
      refine ret_agg rfl Try.underlying50 rfl (w.heap.size + 1) #[.bool hm, .bool hf, .bool hl, .string md, .slice af fs.length cf, .slice ab ls.length cb] 50 infoNs rfl rfl hbs ⟨.slice af fs.length cf, .slice ab ls.length cb, rfl, ?_, ?_, Upd.trans HNS.out.1 hu (fun i hi e => absurd hi (by omega))⟩
      · have hr := HNA.out.2.2.1
        rw [HNN.out] at hr
        have h1 := RdE.upd (E2.ok FN.ok) (RdE.upd (E2.ok FN.ok) hr HIN.out.2.2.2 (fun k hk => hk.2)) hu (fun k hk e => by have := hk.1.1; omega)
        exact RdE.mono (E2.ok FN.ok) h1 (fun k hk => ⟨by have := hk.1.1; omega, by have := hk.1.2; omega⟩)
      · have hr := RdE.upd (E2.ok FL.ok) (HIN.out.2.1.rd (E2.ok FL.ok)) hu (by
          rintro k ⟨_, hk⟩ e
          rcases hk with hk | hk
          · omega
          · have := HIN.out.2.2.1 k hk
            omega)
        refine RdE.mono (E2.ok FL.ok) hr ?_
        rintro k ⟨hk1, hk⟩
        rcases hk with hk | hk
        · exact ⟨by omega, by omega⟩
        · have := HIN.out.2.2.1 k hk
          exact ⟨by omega, by omega⟩
end Go.Proofs.Ytnngibflnnmioaa
