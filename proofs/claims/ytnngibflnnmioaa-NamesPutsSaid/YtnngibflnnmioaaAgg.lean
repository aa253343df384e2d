/-
  Structs handed back in a cell of their own; new blocks looked into.
-/
import Derived.Test.YtnngibflnnmioaaByt
import Derived.Laws.Rows
namespace Go.Proofs.Own
open Go Go.RowKit

theorem heap_at (w : World) (o : Obj) (k : Nat) : (w.alloc o).heap[k]? = if k = w.heap.size then some o else w.heap[k]? := by
  show (w.heap.push o)[k]? = _
  rw [Array.getElem?_push]

theorem hp_new {w : World} {o : Obj} {k : Nat} (h : k = w.heap.size) : (w.alloc o).heap[k]? = some o := by rw [heap_at, if_pos h]
theorem hp_old {w : World} {o x : Obj} {k : Nat} (h : k < w.heap.size) (hw : w.heap[k]? = some x) : (w.alloc o).heap[k]? = some x := by rw [heap_at, if_neg (by omega)]; exact hw

/-- a block of two cells -/
def Blk (w : World) (g : Nat) (a b : Value) (t : TypeId) : Prop := w.heap[g]? = some (.cells #[a, b] t)
theorem Blk.of {w w' : World} {a b : Value} {t : TypeId} (h : New (w.alloc (.cells #[a, b] t)) w') : Blk w' w.heap.size a b t :=
  (h.block w.heap.size (by simp) (fun h => h)).trans (hp_new rfl)
theorem Blk.ofDrew {w w' : World} {a b : Value} {t : TypeId} (h : New (w.alloc (.cells #[a, b] t)).drew w') : Blk w' w.heap.size a b t :=
  (h.block w.heap.size (by simp [World.drew]) (fun h => h)).trans (hp_new rfl)
theorem Blk.new {w w' : World} {g : Nat} {a b : Value} {t : TypeId} (h : Blk w g a b t) (hn : New w w') : Blk w' g a b t :=
  (hn.block g (Array.getElem?_eq_some_iff.1 h).1 (fun h => h)).trans h
theorem Blk.c0 {w : World} {g : Nat} {a b : Value} {t : TypeId} (h : Blk w g a b t) : w.cell? ⟨g, 0, none⟩ = some a := by
  rw [cell_of_row _ g 0 _ t (0, 0) h]; rfl
theorem Blk.c1 {w : World} {g : Nat} {a b : Value} {t : TypeId} (h : Blk w g a b t) : w.cell? ⟨g, 1, none⟩ = some b := by
  rw [cell_of_row _ g 1 _ t (0, 0) h]; rfl
theorem Blk.f {w : World} {g : Nat} {a b : Value} {t : TypeId} (h : Blk w g a b t) (i : Nat) : w.frozen? ⟨g, i, none⟩ = false := by
  unfold Blk at h
  simp [World.frozen?, h]

theorem Blk.put {w : World} {g : Nat} {a b x y : Value} {t : TypeId} (h : Blk w g a b t) : Blk ((w.setCell ⟨g, 0, none⟩ x).setCell ⟨g, 1, none⟩ y) g x y t := by
  unfold Blk at h ⊢
  simp [World.setCell, Array.getElem?_modify, h]
theorem Blk.mk {w : World} {x y : Value} {t : TypeId} : Blk (w.alloc (.cells #[x, y] t)) w.heap.size x y t := hp_new rfl
theorem Blk.put0 {w : World} {g : Nat} {a b x y : Value} {t : TypeId} (h : Blk w g a b t) : ((w.setCell ⟨g, 0, none⟩ x).setCell ⟨g, 1, none⟩ y).cell? ⟨g, 0, none⟩ = some x := by
  have hne : (⟨g, 1, none⟩ : Addr) ≠ ⟨g, 0, none⟩ := by intro e; cases e
  exact (World.cell?_setCell_other _ _ _ _ hne).trans (World.cell?_setCell_same _ _ _ h.c0)
theorem Blk.put1 {w : World} {g : Nat} {a b x y : Value} {t : TypeId} (h : Blk w g a b t) : ((w.setCell ⟨g, 0, none⟩ x).setCell ⟨g, 1, none⟩ y).cell? ⟨g, 1, none⟩ = some y := by
  have hne : (⟨g, 0, none⟩ : Addr) ≠ ⟨g, 1, none⟩ := by intro e; cases e
  exact World.cell?_setCell_same _ _ _ ((World.cell?_setCell_other _ _ _ _ hne).trans h.c1)

theorem Blk.lt {w : World} {g : Nat} {a b : Value} {t : TypeId} (h : Blk w g a b t) : g < w.heap.size := (Array.getElem?_eq_some_iff.1 h).1
theorem absN {S W : World} (_ : New S W) {p : Prop} (h : ∀ g, W.heap.size = g → S.heap.size ≤ W.heap.size → p) (hs : S.heap.size ≤ W.heap.size) : p := h _ rfl hs
/-- one more block, as a step of a region that draws its order: the world gets a name -/
theorem allocStep {K : Act → World → Prop} {a : Act} {S W : World} {x y : Value} {t : TypeId} (hn : New S W)
    (h : ∀ W2, New W W2 → New S W2 → Blk W2 W.heap.size x y t → K a W2) : K a (W.alloc (.cells #[x, y] t)) :=
  h _ ((Upd.refl _ _).alloc _) (hn.alloc _) Blk.mk
/-- a block of two cells written, likewise -/
theorem storeStep {K : Act → World → Prop} {a : Act} {S W : World} {g : Nat} {u v x y : Value} {t : TypeId} (hn : New S W) (hz : Blk W g u v t) (hf : S.heap.size ≤ g)
    (h : ∀ W2, New S W2 → Blk W2 g x y t → (∀ g' a b t', g' ≠ g → Blk W g' a b t' → Blk W2 g' a b t') → K a W2) : K a ((W.setCell ⟨g, 0, none⟩ x).setCell ⟨g, 1, none⟩ y) := by
  refine h _ ((hn.setCell (.inl hf) _).setCell (.inl hf) _) (Blk.put hz) ?_
  intro g' a b t' hne hb
  unfold Blk at hb ⊢
  rw [Below.heap_setCell _ _ _ _ hne, Below.heap_setCell _ _ _ _ hne]
  exact hb

/-- append to a row that is owned, as a step of a region that draws its order -/
theorem step_append {P : Program} {ops : Array Oper} {o : Oper} {a : Act} {Q : Exit → Act → World → Prop} {w : World} {K : Act → World → Prop} {E : Prop} (t e : TypeId) (size bytes : Nat) (z : Value)
    (hinfo : (P.info? e).map (fun i => (i.zero, i.size, i.bytes)) = some (some z, size, bytes)) (ht : P.underlying t = some (.slice e)) (hzs : z.cells.size = size) (hsz : 0 < size)
    (s x : Operand) (hwt : Region.wanted o (yielded ops a.tmps) = true) (ho : o.op = .call { callee := .builtin .append, args := #[s, x], argTypes := #[t, t] })
    (base : Nat) (v : Value) (n : Nat) (xs : List Value) (hs : a.eval s = v) (hown : w.ownsRow base e size v n xs)
    (ad : Addr) (m c : Nat) (news : List Value) (hx : a.eval x = .slice (some ad) m c) (hl : news.length = m * size) (hnews : ∀ j u, news[j]? = some u → w.cell? (ad.add j) = some u) (h1 : ∀ u ∈ news, u.oneCell' = true)
    (h63 : n + m ≤ maxLen) (hbytes : (n + m) * bytes ≤ 140737488355328) (hbase : base ≤ w.heap.size)
    (h : ∀ v' w', w'.ownsRow base e size v' (n + m) (xs ++ news) → Adds w w' v v' → K (a.put o.dst v') w') :
    if Region.wanted o (yielded ops a.tmps) = true then Oper.wp P o a w K Q else E := by
  obtain ⟨i, hi, h2, h3, h4⟩ := info_parts hinfo
  obtain ⟨v', w', hr, hw, ha⟩ := run_append_adds (P := P) w t o.type e i z size bytes ht hi h2 h3 h4 hzs hsz base v n xs hown ad m c news hl hnews h1 h63 hbytes hbase
  rw [if_pos hwt]
  unfold Oper.wp execOp
  simp only [ho, resolve, invoke, builtin, Sem.run_bind, Sem.run_pure, Result.andThen_ok, List.map_toArray, List.map_cons, List.map_nil, hs, hx, hr]
  exact h v' w' hw ha

/-- a function's end: its one result lies in a cell, a struct -/
theorem ret_agg {P : Program} {fn : Func} {Q : Ending → World → Prop} {p : Tmp} {ty : TypeId} {a : Act} {w : World} {d : TypeDesc} (h : fn.results = #[.cell p ty])
    (hu : P.underlying ty = some d) (hd : (match d with | .struct _ | .array _ _ => true | _ => false) = true) (g : Nat) (cs : Array Value) (t : TypeId) (hi : (P.info? ty).map (·.size) = some cs.size)
    (hdef : a.defers = []) (hp : a.tmps.getD p undef = .pointer (some ⟨g, 0, none⟩)) (hg : w.heap[g]? = some (.cells cs t)) (hQ : Q (.returned (.agg cs)) w) : bodyPost P fn Q .ret a w :=
  bodyPost_ret (results_cell_row h a.tmps w g t cs (0, 0) d hp hg hu hd hi) hdef hQ
end Go.Proofs.Own
