/-
  What a call does to memory, and appends to rows that the call itself owns: generic over the program.
-/
import Derived.WalkKit
namespace Go.Proofs.Own
open Go Go.RowKit

/-- a goal at which the walk stops -/
def Hold (p : Prop) : Prop := p
theorem hold {p : Prop} (h : Hold p) : p := h

/-- w' is w with new blocks, and with writes to the blocks of S alone -/
structure Upd (S : Nat → Prop) (w w' : World) : Prop where
  os : w'.os = w.os
  tape : w'.tape = w.tape
  output : w'.output = w.output
  size : w.heap.size ≤ w'.heap.size
  block : ∀ k, k < w.heap.size → ¬ S k → w'.heap[k]? = w.heap[k]?

/-- nothing is written that was there -/
abbrev New (w w' : World) : Prop := Upd (fun _ => False) w w'

theorem Upd.refl (S : Nat → Prop) (w : World) : Upd S w w := ⟨rfl, rfl, rfl, Nat.le_refl _, fun _ _ _ => rfl⟩
theorem Upd.mono {S T : Nat → Prop} {w w' : World} (h : Upd S w w') (hs : ∀ k, k < w.heap.size → S k → T k) : Upd T w w' :=
  ⟨h.os, h.tape, h.output, h.size, fun k hk hn => h.block k hk (fun hS => hn (hs k hk hS))⟩
theorem Upd.trans {S T : Nat → Prop} {a b c : World} (h : Upd S a b) (k : Upd T b c) (hT : ∀ i, i < a.heap.size → T i → S i) : Upd S a c :=
  ⟨k.os.trans h.os, k.tape.trans h.tape, k.output.trans h.output, Nat.le_trans h.size k.size,
    fun i hi hn => (k.block i (Nat.lt_of_lt_of_le hi h.size) (fun ht => hn (hT i hi ht))).trans (h.block i hi hn)⟩
theorem New.trans {a b c : World} (h : New a b) (k : New b c) : New a c := Upd.trans h k (fun _ _ h => h.elim)
theorem New.upd {S : Nat → Prop} {w w' : World} (h : New w w') : Upd S w w' := h.mono (fun _ _ h => h.elim)
theorem Upd.drew {S : Nat → Prop} {a w : World} (h : Upd S a w) : Upd S a w.drew := ⟨h.os, h.tape, h.output, h.size, h.block⟩
theorem Upd.alloc {S : Nat → Prop} {a w : World} (h : Upd S a w) (o : Obj) : Upd S a (w.alloc o) :=
  h.trans ⟨rfl, rfl, rfl, by simp, fun k hk _ => Below.heap_alloc _ _ _ hk⟩ (fun _ _ (h : False) => h.elim)
theorem Upd.setCell {S : Nat → Prop} {a w : World} (h : Upd S a w) {p : Addr} (hp : a.heap.size ≤ p.block ∨ S p.block) (u : Value) : Upd S a (w.setCell p u) := by
  refine h.trans (T := fun k => k = p.block) ⟨rfl, rfl, rfl, by simp [World.setCell], fun k _ hn => Below.heap_setCell _ _ _ _ hn⟩ ?_
  rintro i hi rfl
  rcases hp with hp | hp
  · omega
  · exact hp
theorem Upd.below {S : Nat → Prop} {w w' : World} (h : Upd S w w') (hs : ∀ k, k < w.heap.size → ¬ S k) : Below w.heap.size w w' :=
  ⟨h.os, h.tape, h.output, h.size, fun k hk => h.block k hk (hs k hk)⟩
theorem New.below {w w' : World} (h : New w w') : Below w.heap.size w w' := Upd.below h (fun _ _ h => h)
theorem New.of_below {w w' : World} (h : Below w.heap.size w w') : New w w' := ⟨h.os, h.tape, h.output, h.size, fun k hk _ => h.block k hk⟩
theorem Upd.cell {S : Nat → Prop} {w w' : World} (h : Upd S w w') {a : Addr} {v : Value} (hc : w.cell? a = some v) (hn : ¬ S a.block) : w'.cell? a = some v :=
  (World.cell?_of_block (h.block a.block (World.block_lt_of_cell? w a hc) hn)).trans hc

/-- w' is w with new blocks and writes to v's block alone; v' lies where v lay, or in a new block -/
structure Adds (w w' : World) (v v' : Value) : Prop where
  upd : Upd (fun k => v.ownBlock = some k) w w'
  at' : v'.ownBlock = v.ownBlock ∨ ∃ k, v'.ownBlock = some k ∧ w.heap.size ≤ k
theorem Adds.refl (w : World) (v : Value) : Adds w w v v := ⟨Upd.refl _ _, .inl rfl⟩
theorem Adds.trans {a b c : World} {u v x : Value} (h : Adds a b u v) (k : Adds b c v x) : Adds a c u x := by
  refine ⟨h.upd.trans k.upd ?_, ?_⟩
  · intro i hi hv
    rcases h.at' with e | ⟨j, e, hj⟩
    · rw [← e]; exact hv
    · rw [e] at hv; cases hv; omega
  · rcases k.at' with e | ⟨j, e, hj⟩
    · rw [e]; exact h.at'
    · exact .inr ⟨j, e, Nat.le_trans h.upd.size hj⟩
theorem Adds.ahead {a b c : World} {v x : Value} (h : New a b) (k : Adds b c v x) : Adds a c v x :=
  ⟨(Upd.trans (New.upd h) k.upd (fun _ _ h => h)), k.at'.imp id fun ⟨j, e, hj⟩ => ⟨j, e, Nat.le_trans h.size hj⟩⟩
theorem Adds.then {a b c : World} {v x : Value} (h : Adds a b v x) (k : New b c) : Adds a c v x :=
  ⟨h.upd.trans k (fun _ _ h => h.elim), h.at'⟩

/-- v lies in new memory -/
def Fresh (w : World) (v : Value) : Prop := ∀ k, v.ownBlock = some k → w.heap.size ≤ k
theorem Adds.made {w w0 : World} {g : Nat} {c : Nat} {n : Nat} {o : Obj} {v : Value} (hg : g = w.heap.size) (h : Adds (w.alloc o) w0 (.slice (some ⟨g, 0, none⟩) n c) v) : New w w0 ∧ Fresh w v := by
  subst hg
  refine ⟨Upd.trans ((Upd.refl _ w).alloc o) h.upd ?_, ?_⟩
  · intro i hi h
    have : w.heap.size = i := by cases h; rfl
    omega
  · intro k hk
    rcases h.at' with e | ⟨j, e, hj⟩
    · rw [e] at hk
      have : w.heap.size = k := by cases hk; rfl
      omega
    · rw [e] at hk
      cases hk
      simp at hj
      omega
theorem Fresh.adds {w a b : World} {v v' : Value} (h : Fresh w v) (hw : w.heap.size ≤ a.heap.size) (ha : Adds a b v v') : Fresh w v' := by
  intro k hk
  rcases ha.at' with e | ⟨j, e, hj⟩
  · exact h k (by rw [← e]; exact hk)
  · rw [e] at hk; cases hk; omega
theorem Upd.newAdds {w a b : World} {v v' : Value} (h : New w a) (hf : Fresh w v) (ha : Adds a b v v') : New w b :=
  Upd.trans h ha.upd (fun i hi hk => by have := hf i hk; omega)
theorem Adds.nil {w w' : World} {v : Value} (h : Adds w w' (.slice none 0 0) v) : New w w' ∧ Fresh w v := by
  refine ⟨h.upd.mono (fun k _ h => by cases h), ?_⟩
  intro k hk
  rcases h.at' with e | ⟨j, e, hj⟩
  · rw [e] at hk; cases hk
  · rw [e] at hk; cases hk; exact hj
theorem Fresh.of_new {w0 w : World} {v : Value} (hn : New w0 w) (h : Fresh w v) : Fresh w0 v := fun k hk => Nat.le_trans hn.size (h k hk)
theorem Adds.made' {w0 w w3 : World} {g c n : Nat} {o : Obj} {v : Value} (hg : g = w.heap.size) (hn : New w0 w) (h : Adds (w.alloc o) w3 (.slice (some ⟨g, 0, none⟩) n c) v) : New w0 w3 ∧ Fresh w0 v :=
  have h2 := Adds.made hg h
  ⟨New.trans hn h2.1, Fresh.of_new hn h2.2⟩
/-- the same behind the draw of an order -/
theorem Adds.drewn {w w3 : World} {c n : Nat} {o : Obj} {v : Value} (h : Adds (w.drew.alloc o) w3 (.slice (some ⟨w.heap.size, 0, none⟩) n c) v) : New w w3 ∧ Fresh w v :=
  Adds.made' (w := w.drew) rfl ((Upd.refl _ _).drew) h
/-- what is owned stays owned while other blocks are written -/
theorem ownsRow_upd {w w' : World} {base : Nat} {e : TypeId} {size : Nat} {v : Value} {n : Nat} {xs : List Value} {S : Nat → Prop}
    (h : w.ownsRow base e size v n xs) (hg : Upd S w w') (hne : ∀ k, v.ownBlock = some k → ¬ S k) : w'.ownsRow base e size v n xs := by
  refine ⟨h.1, ?_⟩
  rcases h.2 with hn | ⟨g, cap, cur, rfl, hb, hgg, rest⟩
  · exact .inl hn
  · refine .inr ⟨g, cap, cur, rfl, hb, ?_, rest⟩
    rw [hg.block g (Array.getElem?_eq_some_iff.1 hgg).1 (hne g rfl)]
    exact hgg
theorem ownsRow_new {w w' : World} {base : Nat} {e : TypeId} {size : Nat} {v : Value} {n : Nat} {xs : List Value}
    (h : w.ownsRow base e size v n xs) (hg : New w w') : w'.ownsRow base e size v n xs := ownsRow_upd h hg (fun _ _ h => h)
theorem ownsRow_base {w : World} {base base' : Nat} {e : TypeId} {size : Nat} {v : Value} {n : Nat} {xs : List Value}
    (h : w.ownsRow base e size v n xs) (hb : ∀ k, v.ownBlock = some k → base' ≤ k) : w.ownsRow base' e size v n xs := by
  refine ⟨h.1, ?_⟩
  rcases h.2 with hn | ⟨g, cap, cur, rfl, _, r⟩
  · exact .inl hn
  · exact .inr ⟨g, cap, cur, rfl, hb g rfl, r⟩

section
variable {P : Program}
/-- append to a row that is owned: it grows there, or in a new block -/
theorem run_append_adds (w : World) (t ty e : TypeId) (i : TypeInfo) (z : Value) (size bytes : Nat) (ht : P.underlying t = some (.slice e)) (hi : P.info? e = some i) (hz : i.zero = some z)
    (hsize : i.size = size) (hby : i.bytes = bytes) (hzs : z.cells.size = size) (hsz : 0 < size)
    (base : Nat) (v : Value) (n : Nat) (xs : List Value) (hown : w.ownsRow base e size v n xs)
    (a : Addr) (m c : Nat) (news : List Value) (hl : news.length = m * size) (hnews : ∀ j u, news[j]? = some u → w.cell? (a.add j) = some u) (h1 : ∀ u ∈ news, u.oneCell' = true)
    (h63 : n + m ≤ maxLen) (hbytes : (n + m) * bytes ≤ 140737488355328) (hbase : base ≤ w.heap.size) :
    ∃ v' w', (Builtin.append_ #[t, t] ty #[v, .slice (some a) m c]).run P w = .ok v' w' ∧ w'.ownsRow base e size v' (n + m) (xs ++ news) ∧ Adds w w' v v' := by
  have conv : ∀ {w' : World} {row : Option Nat}, w.grownBy w' row → Upd (fun k => row = some k) w w' := fun g =>
    ⟨g.os, g.tape, g.output, g.size, fun k hk hn => g.block k hk (fun e => hn e.symm)⟩
  rcases hown.2 with ⟨rfl, rfl⟩ | ⟨g, cap, cur, rfl, hbg, hg, hnc, hcm, hcs, htake⟩
  · have hx : xs = [] := List.eq_nil_of_length_eq_zero (by simpa using hown.1)
    subst hx
    obtain ⟨v', w', hr, ho, hg, hn⟩ := run_append_own (P := P) w w.heap.size t ty e i z size bytes ht hi hz hsize hby hzs hsz _ 0 [] (World.ownsRow_nil w _ e size) a m c news hl hnews h1 h63 hbytes (Nat.le_refl _)
    refine ⟨v', w', hr, ?_, conv hg, ?_⟩
    · exact ownsRow_base ho (fun k hk => Nat.le_trans hbase (ho.lt k hk).1)
    · cases hb : v'.ownBlock with
      | none => exact .inl rfl
      | some k => exact .inr ⟨k, rfl, (ho.lt k hb).1⟩
  · by_cases hroom : n + m ≤ cap
    · subst hsize
      have hfit : n * i.size + news.length ≤ cur.size := by rw [hl, hcs, ← Nat.add_mul]; exact Nat.mul_le_mul_right _ hroom
      have hr := run_append_room (P := P) w t ty e i ht hi g n cap cur hg a m c news hl hnews h1 hroom hfit
      obtain ⟨v', w', hr', ho, hg', _⟩ := run_append_own (P := P) w base t ty e i z i.size bytes ht hi hz rfl hby hzs hsz _ n xs hown a m c news hl hnews h1 h63 hbytes hbase
      rw [hr] at hr'
      cases hr'
      exact ⟨_, _, hr, ho, conv hg', .inl rfl⟩
    · obtain ⟨v', w', hr', ho, hg', _⟩ := run_append_own (P := P) w base t ty e i z size bytes ht hi hz hsize hby hzs hsz _ n xs hown a m c news hl hnews h1 h63 hbytes hbase
      subst hsize; subst hby
      have holds : ∀ j u, xs[j]? = some u → w.cell? ((⟨g, 0, none⟩ : Addr).add j) = some u := hown.cells (g := g) rfl
      have hr := run_append_grow (P := P) w t ty e i z ht hi hz ⟨g, 0, none⟩ n cap xs hown.1 holds a m c news hl hnews (by omega) (by simp only [maxLen] at h63; omega) (growslice_fits (by omega) hbytes)
      rw [hr] at hr'
      cases hr'
      exact ⟨_, _, hr, ho, conv hg', .inr ⟨_, rfl, Nat.le_refl _⟩⟩

/-- the walk's law for it, at a goal that is held -/
theorem held_append {ops : Array Oper} {rest : List Oper} {o : Oper} {a : Act} {Q : Exit → Act → World → Prop} {w : World} (t e : TypeId) (size bytes : Nat) (z : Value)
    (hinfo : (P.info? e).map (fun i => (i.zero, i.size, i.bytes)) = some (some z, size, bytes)) (ht : P.underlying t = some (.slice e)) (hzs : z.cells.size = size) (hsz : 0 < size)
    (s x : Operand) (hgd : o.guard = none) (ho : o.op = .call { callee := .builtin .append, args := #[s, x], argTypes := #[t, t] })
    (base : Nat) (v : Value) (n : Nat) (xs : List Value) (hs : a.eval s = v) (hown : w.ownsRow base e size v n xs)
    (ad : Addr) (m c : Nat) (news : List Value) (hx : a.eval x = .slice (some ad) m c) (hl : news.length = m * size) (hnews : ∀ j u, news[j]? = some u → w.cell? (ad.add j) = some u) (h1 : ∀ u ∈ news, u.oneCell' = true)
    (h63 : n + m ≤ maxLen) (hbytes : (n + m) * bytes ≤ 140737488355328) (hbase : base ≤ w.heap.size)
    (h : ∀ v' w', w'.ownsRow base e size v' (n + m) (xs ++ news) → Adds w w' v v' → wpList P ops Q rest (a.put o.dst v') w') : Hold (wpList P ops Q (o :: rest) a w) := by
  obtain ⟨i, hi, h2, h3, h4⟩ := info_parts hinfo
  refine wpList_plain hgd fun K hK => ?_
  obtain ⟨v', w', hr, hw, ha⟩ := run_append_adds (P := P) w t o.type e i z size bytes ht hi h2 h3 h4 hzs hsz base v n xs hown ad m c news hl hnews h1 h63 hbytes hbase
  unfold Oper.wp execOp
  simp only [ho, resolve, invoke, builtin, Sem.run_bind, Sem.run_pure, Result.andThen_ok, List.map_toArray, List.map_cons, List.map_nil, hs, hx, hr]
  exact hK _ _ (h v' w' hw ha)

/-- one element of one cell, laid in a block of its own ahead of it -/
theorem held_append1 {ops : Array Oper} {rest : List Oper} {o : Oper} {a : Act} {Q : Exit → Act → World → Prop} {w : World} (t e : TypeId) (bytes : Nat) (z : Value)
    (hinfo : (P.info? e).map (fun i => (i.zero, i.size, i.bytes)) = some (some z, 1, bytes)) (ht : P.underlying t = some (.slice e)) (hzs : z.cells.size = 1)
    (s x : Operand) (hgd : o.guard = none) (ho : o.op = .call { callee := .builtin .append, args := #[s, x], argTypes := #[t, t] })
    (base : Nat) (v : Value) (n : Nat) (xs : List Value) (hs : a.eval s = v) (hown : w.ownsRow base e 1 v n xs)
    (y : Value) (hx : a.eval x = .slice (some ⟨w.heap.size, 0, none⟩) 1 1) (h1 : y.oneCell' = true)
    (h63 : n + 1 ≤ maxLen) (hbytes : (n + 1) * bytes ≤ 140737488355328) (hbase : base ≤ w.heap.size)
    (h : ∀ v' w', w'.ownsRow base e 1 v' (n + 1) (xs ++ [y]) → Adds w w' v v' → wpList P ops Q rest (a.put o.dst v') w') :
    Hold (wpList P ops Q (o :: rest) a (w.alloc (.cells #[y] e))) := by
  refine held_append t e 1 bytes z hinfo ht hzs (by decide) s x hgd ho base v n xs hs (hown.alloc _) ⟨w.heap.size, 0, none⟩ 1 1 [y] hx rfl ?_ ?_ h63 hbytes (by simp; omega) ?_
  · intro j u hj
    match j, hj with
    | 0, hj => simp at hj; subst hj; simp [Addr.add]
  · intro u hu; simp at hu; subst hu; exact h1
  · intro v' w' ho ha
    exact h v' w' ho (Adds.ahead ((Upd.refl _ _).alloc _) ha)
end
end Go.Proofs.Own

namespace Go.Proofs.Own
open Go

/-- a region of a function's code, by its number -/
def findRegion (n : Nat) : Code → Option Code
  | .region id ops d => if id = n then some (.region id ops d) else none
  | .seq a b => match findRegion n a with
    | some c => some c
    | none => findRegion n b
  | .cond _ a b => match findRegion n a with
    | some c => some c
    | none => findRegion n b
  | .loop c => findRegion n c
  | .block _ c => findRegion n c
  | .scope c => findRegion n c
  | _ => none
end Go.Proofs.Own
