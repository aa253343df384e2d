/-
  Slices of elements of several cells, with memory of their own: read, and added to. Generic over the program.
-/
import Derived.Test.YtjagimlmclejeaaJ3
import Derived.Test.YtjagimlmclejeaaJ4
namespace Go.Proofs.Own
open Go Go.RowKit

/-- what a row of cells represents, in memory that lies in the blocks B -/
abbrev ERep (α : Type) := World → (Nat → Prop) → α → List Value → Prop
structure ERep.Ok {α : Type} (E : ERep α) : Prop where
  upd : ∀ {S : Nat → Prop} {w w' : World} {B : Nat → Prop} {x : α} {row : List Value}, E w B x row → Upd S w w' → (∀ k, B k → ¬ S k) → E w' B x row
  mono : ∀ {w : World} {B B' : Nat → Prop} {x : α} {row : List Value}, E w B x row → (∀ k, B k → B' k) → E w B' x row

/-- a slice of elements of n cells that can be read -/
def RdE {α : Type} (n : Nat) (E : ERep α) (w : World) (B : Nat → Prop) (v : Value) (xs : List α) : Prop :=
  ∃ a cap, v = .slice a xs.length cap ∧ xs.length ≤ cap ∧ (a = none → cap = 0) ∧ (∀ k, v.ownBlock = some k → B k) ∧ (xs ≠ [] → ∃ b o, a = some ⟨b, o, none⟩ ∧
    ∀ i (h : i < xs.length), ∃ row, row.length = n ∧ E w B xs[i] row ∧ ∀ j u, row[j]? = some u → w.cell? ⟨b, o + i * n + j, none⟩ = some u)
section
variable {α : Type} {n : Nat} {E : ERep α} {w w' : World} {B B' : Nat → Prop} {v : Value} {xs : List α}
theorem RdE.shape (h : RdE n E w B v xs) : ∃ a cap, v = .slice a xs.length cap := by
  obtain ⟨a, cap, h, -⟩ := h
  exact ⟨a, cap, h⟩
theorem RdE.own (h : RdE n E w B v xs) : ∀ k, v.ownBlock = some k → B k := by
  obtain ⟨a, cap, rfl, _, _, h, _⟩ := h
  exact h
theorem RdE.nil : RdE n E w B (.slice none 0 0) [] := ⟨none, 0, rfl, Nat.le_refl _, fun _ => rfl, (fun k h => by cases h), fun h => absurd rfl h⟩
theorem RdE.upd {S : Nat → Prop} (hE : E.Ok) (h : RdE n E w B v xs) (hu : Upd S w w') (hS : ∀ k, B k → ¬ S k) : RdE n E w' B v xs := by
  obtain ⟨a, cap, rfl, h1, h2, h3, h4⟩ := h
  refine ⟨a, cap, rfl, h1, h2, h3, fun hx => ?_⟩
  obtain ⟨b, o, rfl, hc⟩ := h4 hx
  refine ⟨b, o, rfl, fun i hi => ?_⟩
  obtain ⟨row, hl, he, hr⟩ := hc i hi
  exact ⟨row, hl, hE.upd he hu hS, fun j u hj => hu.cell (hr j u hj) (hS b (h3 b rfl))⟩
theorem RdE.new (hE : E.Ok) (h : RdE n E w B v xs) (hu : New w w') : RdE n E w' B v xs := h.upd hE hu (fun _ _ h => h)
theorem RdE.mono (hE : E.Ok) (h : RdE n E w B v xs) (hB : ∀ k, B k → B' k) : RdE n E w B' v xs := by
  obtain ⟨a, cap, rfl, h1, h2, h3, h4⟩ := h
  refine ⟨a, cap, rfl, h1, h2, fun k hk => hB k (h3 k hk), fun hx => ?_⟩
  obtain ⟨b, o, rfl, hc⟩ := h4 hx
  refine ⟨b, o, rfl, fun i hi => ?_⟩
  obtain ⟨row, hl, he, hr⟩ := hc i hi
  exact ⟨row, hl, hE.mono he hB, hr⟩
/-- its element at an index -/
theorem RdE.at (h : RdE n E w B v xs) : ∃ a cap, v = .slice a xs.length cap ∧ ∀ i (hi : i < xs.length), ∃ b o row, a = some ⟨b, o, none⟩ ∧ row.length = n ∧ E w B xs[i] row ∧ ∀ j u, row[j]? = some u → w.cell? ⟨b, o + i * n + j, none⟩ = some u := by
  obtain ⟨a, cap, rfl, h1, h2, h3, h4⟩ := h
  refine ⟨a, cap, rfl, fun i hi => ?_⟩
  obtain ⟨b, o, rfl, hc⟩ := h4 (by intro e; subst e; simp at hi)
  obtain ⟨row, hl, he, hr⟩ := hc i hi
  exact ⟨b, o, row, rfl, hl, he, hr⟩
end
/-- an element that holds no memory -/
def Pure {α : Type} (f : α → List Value) : ERep α := fun _ _ x row => row = f x
theorem Pure.ok {α : Type} (f : α → List Value) : (Pure f).Ok := ⟨fun h _ _ => h, fun h _ => h⟩

/-- what one cell represents, in memory that lies in the blocks B -/
abbrev FRep (β : Type) := World → (Nat → Prop) → Value → β → Prop
structure FRep.Ok {β : Type} (F : FRep β) : Prop where
  upd : ∀ {S : Nat → Prop} {w w' : World} {B : Nat → Prop} {u : Value} {y : β}, F w B u y → Upd S w w' → (∀ k, B k → ¬ S k) → F w' B u y
  mono : ∀ {w : World} {B B' : Nat → Prop} {u : Value} {y : β}, F w B u y → (∀ k, B k → B' k) → F w B' u y
theorem FRep.Ok.new {β : Type} {F : FRep β} (h : F.Ok) {w w' : World} {B : Nat → Prop} {u : Value} {y : β} (hf : F w B u y) (hn : New w w') : F w' B u y := h.upd hf hn (fun _ _ h => h)
/-- an element of one cell -/
def E1 {β : Type} (F : FRep β) : ERep β := fun w B x row => ∃ u, row = [u] ∧ F w B u x
theorem E1.ok {β : Type} {F : FRep β} (h : F.Ok) : (E1 F).Ok :=
  ⟨fun ⟨u, e, hf⟩ hu hS => ⟨u, e, h.upd hf hu hS⟩, fun ⟨u, e, hf⟩ hB => ⟨u, e, h.mono hf hB⟩⟩
theorem e1_at {β : Type} {F : FRep β} {w : World} {B : Nat → Prop} {v : Value} {xs : List β} (h : RdE 1 (E1 F) w B v xs) : ∃ a cap, v = .slice a xs.length cap ∧ ∀ i (hi : i < xs.length), ∃ b o u, a = some ⟨b, o, none⟩ ∧ w.cell? ⟨b, o + i, none⟩ = some u ∧ F w B u xs[i] := by
  obtain ⟨a, cap, rfl, hat⟩ := h.at
  refine ⟨a, cap, rfl, fun i hi => ?_⟩
  obtain ⟨b, o, row, rfl, hl, ⟨u, rfl, hf⟩, hc⟩ := hat i hi
  exact ⟨b, o, u, rfl, by simpa using hc 0 _ rfl, hf⟩
/-- where the elements' memory of a slice that is owned lies: anywhere of C but in its own block -/
def Off (C : Nat → Prop) (w : World) (v : Value) : Nat → Prop := fun k => (k < w.heap.size ∧ v.ownBlock ≠ some k) ∧ C k
def OwE {α : Type} (T : TypeId) (n : Nat) (E : ERep α) (C : Nat → Prop) (w : World) (v : Value) (xs : List α) : Prop :=
  ∃ rows : List (List Value), rows.length = xs.length ∧ (∀ r ∈ rows, r.length = n) ∧ (∀ i (h : i < xs.length) (h' : i < rows.length), E w (Off C w v) xs[i] rows[i]) ∧ w.ownsRow 0 T n v xs.length rows.flatten
theorem flatten_at {n : Nat} : ∀ (rows : List (List Value)), (∀ r ∈ rows, r.length = n) → ∀ i (h : i < rows.length) j u, rows[i][j]? = some u → rows.flatten[i * n + j]? = some u
  | [], _, i, h, _, _, _ => absurd h (Nat.not_lt_zero _)
  | r :: rs, hn, 0, _, j, u, hu => by
    simp only [List.getElem_cons_zero] at hu
    rw [List.flatten_cons, Nat.zero_mul, Nat.zero_add, List.getElem?_append_left (List.getElem?_eq_some_iff.1 hu).1]
    exact hu
  | r :: rs, hn, i + 1, h, j, u, hu => by
    have hr := hn r (by simp)
    rw [List.flatten_cons, List.getElem?_append_right (by rw [hr, Nat.succ_mul]; omega), hr]
    have e : (i + 1) * n + j - n = i * n + j := by rw [Nat.succ_mul]; omega
    rw [e]
    exact flatten_at rs (fun r hr => hn r (by simp [hr])) i (by simpa using h) j u (by simpa using hu)
section
variable {α : Type} {T : TypeId} {n : Nat} {E : ERep α} {C : Nat → Prop} {w w' : World} {v v' : Value} {xs : List α}
theorem OwE.nil : OwE T n E C w (.slice none 0 0) [] := ⟨[], rfl, (fun r h => by cases h), (fun i h => absurd h (Nat.not_lt_zero _)), World.ownsRow_nil w 0 T n⟩
theorem OwE.lt (h : OwE T n E C w v xs) : ∀ k, v.ownBlock = some k → k < w.heap.size := by
  obtain ⟨_, _, _, _, h⟩ := h
  exact fun k hk => (World.ownsRow.lt h k hk).2
theorem OwE.shape (h : OwE T n E C w v xs) : ∃ a cap, v = .slice a xs.length cap := by
  obtain ⟨_, _, _, _, _, h⟩ := h
  rcases h with ⟨rfl, h⟩ | ⟨g, cap, _, rfl, _⟩
  · exact ⟨none, 0, by rw [h]⟩
  · exact ⟨_, _, rfl⟩
theorem OwE.upd {S : Nat → Prop} (hE : E.Ok) (h : OwE T n E C w v xs) (hu : Upd S w w') (hS : ∀ k, k < w.heap.size → C k → ¬ S k) (hv : ∀ k, v.ownBlock = some k → ¬ S k) : OwE T n E C w' v xs := by
  obtain ⟨rows, h1, h2, h3, h4⟩ := h
  refine ⟨rows, h1, h2, fun i hi hi' => ?_, ownsRow_upd h4 hu hv⟩
  exact hE.mono (hE.upd (h3 i hi hi') hu (fun k hk => hS k hk.1.1 hk.2)) (fun k hk => ⟨⟨Nat.lt_of_lt_of_le hk.1.1 hu.size, hk.1.2⟩, hk.2⟩)
theorem OwE.new (hE : E.Ok) (h : OwE T n E C w v xs) (hu : New w w') : OwE T n E C w' v xs := h.upd hE hu (fun _ _ _ h => h) (fun _ _ h => h)
theorem OwE.rd (hE : E.Ok) (h : OwE T n E C w v xs) : RdE n E w (fun k => k < w.heap.size ∧ (C k ∨ v.ownBlock = some k)) v xs := by
  obtain ⟨rows, h1, h2, h3, h4⟩ := h
  have hlt := fun k hk => (World.ownsRow.lt h4 k hk).2
  obtain ⟨h5, h6⟩ := h4
  rcases h6 with ⟨rfl, h7⟩ | ⟨g, cap, cur, rfl, hb, hg, hnc, hcm, hcs, htk⟩
  · have : xs = [] := List.eq_nil_of_length_eq_zero h7
    subst this
    exact RdE.nil
  · refine ⟨_, cap, rfl, hnc, (fun h => by cases h), (fun k hk => ⟨hlt k hk, .inr hk⟩), fun hx => ⟨g, 0, rfl, fun i hi => ?_⟩⟩
    have hi' : i < rows.length := by omega
    refine ⟨rows[i], h2 _ (List.getElem_mem _), hE.mono (h3 i hi hi') (fun k hk => ⟨hk.1.1, .inl hk.2⟩), fun j u hj => ?_⟩
    have hown : w.ownsRow 0 T n (.slice (some ⟨g, 0, none⟩) xs.length cap) xs.length rows.flatten := ⟨h5, .inr ⟨g, cap, cur, rfl, hb, hg, hnc, hcm, hcs, htk⟩⟩
    have := hown.cells (g := g) rfl (i * n + j) u (flatten_at rows h2 i hi' j u hj)
    rw [Addr.add_lit] at this
    rw [Nat.add_assoc]
    exact this
/-- one element more -/
theorem OwE.push (hE : E.Ok) {x : α} {row : List Value} (h1 : OwE T n E C w v xs) (hx : E w (Off C w v) x row) (hl : row.length = n)
    (hrow : ∀ rows : List (List Value), w.ownsRow 0 T n v xs.length rows.flatten → w'.ownsRow 0 T n v' (xs.length + 1) (rows.flatten ++ row)) (ha : Adds w w' v v') : OwE T n E C w' v' (xs ++ [x]) := by
  obtain ⟨rows, r1, r2, r3, r4⟩ := h1
  have hoff : ∀ k, Off C w v k → Off C w' v' k := by
    intro k hk
    refine ⟨⟨Nat.lt_of_lt_of_le hk.1.1 ha.upd.size, ?_⟩, hk.2⟩
    rcases ha.at' with e | ⟨j, e, hj⟩
    · rw [e]; exact hk.1.2
    · rw [e]
      intro he
      cases he
      have := hk.1.1
      omega
  have hstep : ∀ (y : α) (r : List Value), E w (Off C w v) y r → E w' (Off C w' v') y r := fun y r hy => hE.mono (hE.upd hy ha.upd (fun k hk => hk.1.2)) hoff
  refine ⟨rows ++ [row], by simp [r1], ?_, ?_, ?_⟩
  · intro r hr
    simp at hr
    rcases hr with hr | rfl
    · exact r2 r hr
    · exact hl
  · intro i hi hi'
    by_cases h : i < xs.length
    · rw [List.getElem_append_left h, List.getElem_append_left (by omega)]
      exact hstep _ _ (r3 i h (by omega))
    · have e : i = xs.length := by simp at hi; omega
      subst e
      simp only [List.getElem_append_right (Nat.le_refl _), Nat.sub_self, List.getElem_cons_zero]
      simp only [← r1, List.getElem_append_right (Nat.le_refl _), Nat.sub_self, List.getElem_cons_zero]
      exact hstep _ _ hx
  · have := hrow rows r4
    simpa using this
theorem ownsRow_told {w w' : World} {T : TypeId} {n m : Nat} {v v' : Value} {l1 l2 row : List Value} (h2 : w.ownsRow 0 T n v m l2) (h1 : w.ownsRow 0 T n v m l1) (h : w'.ownsRow 0 T n v' (m + 1) (l1 ++ row)) : w'.ownsRow 0 T n v' (m + 1) (l2 ++ row) := by
  have : l2 = l1 := by
    obtain ⟨p1, p2⟩ := h2
    obtain ⟨q1, q2⟩ := h1
    rcases p2 with ⟨rfl, hn⟩ | ⟨g, cap, cur, rfl, _, hg, _, _, _, ht⟩
    · rw [hn] at p1 q1
      rw [Nat.zero_mul] at p1 q1
      rw [List.eq_nil_of_length_eq_zero p1, List.eq_nil_of_length_eq_zero q1]
    · rcases q2 with ⟨e, _⟩ | ⟨g', cap', cur', e, _, hg', _, _, _, ht'⟩
      · cases e
      · cases e
        rw [hg] at hg'
        cases hg'
        rw [← ht, ← ht']
  rw [this]
  exact h
end
section
variable {P : Program} {α : Type}
theorem new_row {w : World} {e : TypeId} {row : List Value} : ∀ j u, row[j]? = some u → (w.alloc (.cells row.toArray e)).cell? ((⟨w.heap.size, 0, none⟩ : Addr).add j) = some u := by
  intro j u hj
  rw [Addr.add_lit, cell_of_row _ w.heap.size (0 + j) _ e (0, 0) (hp_new rfl), Nat.zero_add]
  simpa using hj
/-- append of one element, laid in a block of its own ahead of it: the walk's law at a goal that is held -/
theorem held_appendE {ops : Array Oper} {rest : List Oper} {o : Oper} {a : Act} {Q : Exit → Act → World → Prop} {w : World} {E : ERep α} {C : Nat → Prop} (hE : E.Ok) (t e : TypeId) (size bytes : Nat) (z : Value)
    (hinfo : (P.info? e).map (fun i => (i.zero, i.size, i.bytes)) = some (some z, size, bytes)) (ht : P.underlying t = some (.slice e)) (hzs : z.cells.size = size) (hsz : 0 < size)
    (s x : Operand) (hgd : o.guard = none) (ho : o.op = .call { callee := .builtin .append, args := #[s, x], argTypes := #[t, t] })
    (v : Value) (xs : List α) (hs : a.eval s = v) (hown : OwE e size E C w v xs) (y : α) (row : List Value) (hy : E w (Off C w v) y row)
    (hx : a.eval x = .slice (some ⟨w.heap.size, 0, none⟩) 1 1) (hl : row.length = size) (h1 : ∀ u ∈ row, u.oneCell' = true)
    (h63 : xs.length + 1 ≤ maxLen) (hbytes : (xs.length + 1) * bytes ≤ 140737488355328)
    (h : ∀ v' w', OwE e size E C w' v' (xs ++ [y]) → Adds w w' v v' → wpList P ops Q rest (a.put o.dst v') w') : Hold (wpList P ops Q (o :: rest) a (w.alloc (.cells row.toArray e))) := by
  obtain ⟨rows, r1, r2, r3, r4⟩ := hown
  refine held_append t e size bytes z hinfo ht hzs hsz s x hgd ho 0 v xs.length rows.flatten hs (r4.alloc _) ⟨w.heap.size, 0, none⟩ 1 1 row hx (by omega) new_row h1 h63 hbytes (Nat.zero_le _) ?_
  intro v' w' ho' ha
  have ha' := Adds.ahead ((Upd.refl _ _).alloc _) ha
  exact h v' w' (OwE.push hE ⟨rows, r1, r2, r3, r4⟩ hy hl (fun rows2 h2 => ownsRow_told h2 r4 ho') ha') ha'
/-- the same as a step of a region that draws its order; other steps may lie between the element's block and it -/
theorem step_appendE {ops : Array Oper} {o : Oper} {a : Act} {Q : Exit → Act → World → Prop} {w w0 : World} {K : Act → World → Prop} {E' : Prop} {E : ERep α} {C : Nat → Prop} (hE : E.Ok) (t e : TypeId) (size bytes : Nat) (z : Value)
    (hinfo : (P.info? e).map (fun i => (i.zero, i.size, i.bytes)) = some (some z, size, bytes)) (ht : P.underlying t = some (.slice e)) (hzs : z.cells.size = size) (hsz : 0 < size)
    (s x : Operand) (hwt : Region.wanted o (yielded ops a.tmps) = true) (ho : o.op = .call { callee := .builtin .append, args := #[s, x], argTypes := #[t, t] })
    (v : Value) (xs : List α) (hs : a.eval s = v) (hown : OwE e size E C w v xs) (y : α) (row : List Value) (hy : E w (Off C w v) y row) (hn0 : New (w0.alloc (.cells row.toArray e)) w)
    (hx : a.eval x = .slice (some ⟨w0.heap.size, 0, none⟩) 1 1) (hl : row.length = size) (h1 : ∀ u ∈ row, u.oneCell' = true)
    (h63 : xs.length + 1 ≤ maxLen) (hbytes : (xs.length + 1) * bytes ≤ 140737488355328)
    (h : ∀ v' w', OwE e size E C w' v' (xs ++ [y]) → Adds w w' v v' → K (a.put o.dst v') w') :
    if Region.wanted o (yielded ops a.tmps) = true then Oper.wp P o a w K Q else E' := by
  obtain ⟨rows, r1, r2, r3, r4⟩ := hown
  refine step_append t e size bytes z hinfo ht hzs hsz s x hwt ho 0 v xs.length rows.flatten hs r4 ⟨w0.heap.size, 0, none⟩ 1 1 row hx (by omega) (fun j u hj => hn0.cell (new_row j u hj) (fun h => h)) h1 h63 hbytes (Nat.zero_le _) ?_
  intro v' w' ho' ha
  exact h v' w' (OwE.push hE ⟨rows, r1, r2, r3, r4⟩ hy hl (fun rows2 h2 => ownsRow_told h2 r4 ho') ha) ha
end
end Go.Proofs.Own
