/-
  What a call does to memory, and appends to rows that the call itself owns: generic over the program.
-/
import Derived.WalkKit
import Derived.Test.YtbllpajibhiobaaDoorChecked
import Derived.Laws.Rows
import Derived.Deep.RegionHeld3
import Derived.Deep.DeepCutAuto
import Derived.WalkMore
import Derived.ProofKit
import Derived.OpenShut
import Derived.Below
import Derived.Deep.QuietTactic
import Derived.BigQuiet
import Derived.Laws.IdiomStrings
import Derived.Shelf.Strconv.Itoa0
import Derived.Test.YtbllpajibhiobaaDoorProg
import Derived.Laws.AppendOwn
namespace Go.Proofs.Own
open Go Go.RowKit

/-- a goal at which the walk stops -/
def Hold (p : Prop) : Prop := p
theorem hold {p : Prop} (h : Hold p) : p := h

/-- w' is w with new blocks, and with writes to the blocks of S alone -/
structure Upd (S : Nat → Prop) (w w' : World) : Prop where
  os : w'.os = w.os
  tape : w'.tape = w.tape
  output : w'.output = w.output
  size : w.heap.size ≤ w'.heap.size
  block : ∀ k, k < w.heap.size → ¬ S k → w'.heap[k]? = w.heap[k]?

/-- nothing is written that was there -/
abbrev New (w w' : World) : Prop := Upd (fun _ => False) w w'

theorem Upd.refl (S : Nat → Prop) (w : World) : Upd S w w := ⟨rfl, rfl, rfl, Nat.le_refl _, fun _ _ _ => rfl⟩
theorem Upd.mono {S T : Nat → Prop} {w w' : World} (h : Upd S w w') (hs : ∀ k, k < w.heap.size → S k → T k) : Upd T w w' :=
  ⟨h.os, h.tape, h.output, h.size, fun k hk hn => h.block k hk (fun hS => hn (hs k hk hS))⟩
theorem Upd.trans {S T : Nat → Prop} {a b c : World} (h : Upd S a b) (k : Upd T b c) (hT : ∀ i, i < a.heap.size → T i → S i) : Upd S a c :=
  ⟨k.os.trans h.os, k.tape.trans h.tape, k.output.trans h.output, Nat.le_trans h.size k.size,
    fun i hi hn => (k.block i (Nat.lt_of_lt_of_le hi h.size) (fun ht => hn (hT i hi ht))).trans (h.block i hi hn)⟩
theorem New.trans {a b c : World} (h : New a b) (k : New b c) : New a c := Upd.trans h k (fun _ _ h => h.elim)
theorem New.upd {S : Nat → Prop} {w w' : World} (h : New w w') : Upd S w w' := h.mono (fun _ _ h => h.elim)
theorem Upd.drew {S : Nat → Prop} {a w : World} (h : Upd S a w) : Upd S a w.drew := ⟨h.os, h.tape, h.output, h.size, h.block⟩
theorem Upd.alloc {S : Nat → Prop} {a w : World} (h : Upd S a w) (o : Obj) : Upd S a (w.alloc o) :=
  h.trans ⟨rfl, rfl, rfl, by simp, fun k hk _ => Below.heap_alloc _ _ _ hk⟩ (fun _ _ (h : False) => h.elim)
theorem Upd.setCell {S : Nat → Prop} {a w : World} (h : Upd S a w) {p : Addr} (hp : a.heap.size ≤ p.block ∨ S p.block) (u : Value) : Upd S a (w.setCell p u) := by
  refine h.trans (T := fun k => k = p.block) ⟨rfl, rfl, rfl, by simp [World.setCell], fun k _ hn => Below.heap_setCell _ _ _ _ hn⟩ ?_
  rintro i hi rfl
  rcases hp with hp | hp
  · omega
  · exact hp
theorem Upd.below {S : Nat → Prop} {w w' : World} (h : Upd S w w') (hs : ∀ k, k < w.heap.size → ¬ S k) : Below w.heap.size w w' :=
  ⟨h.os, h.tape, h.output, h.size, fun k hk => h.block k hk (hs k hk)⟩
theorem New.below {w w' : World} (h : New w w') : Below w.heap.size w w' := Upd.below h (fun _ _ h => h)
theorem New.of_below {w w' : World} (h : Below w.heap.size w w') : New w w' := ⟨h.os, h.tape, h.output, h.size, fun k hk _ => h.block k hk⟩
theorem Upd.cell {S : Nat → Prop} {w w' : World} (h : Upd S w w') {a : Addr} {v : Value} (hc : w.cell? a = some v) (hn : ¬ S a.block) : w'.cell? a = some v :=
  (World.cell?_of_block (h.block a.block (World.block_lt_of_cell? w a hc) hn)).trans hc

/-- w' is w with new blocks and writes to v's block alone; v' lies where v lay, or in a new block -/
structure Adds (w w' : World) (v v' : Value) : Prop where
  upd : Upd (fun k => v.ownBlock = some k) w w'
  at' : v'.ownBlock = v.ownBlock ∨ ∃ k, v'.ownBlock = some k ∧ w.heap.size ≤ k
theorem Adds.refl (w : World) (v : Value) : Adds w w v v := ⟨Upd.refl _ _, .inl rfl⟩
theorem Adds.trans {a b c : World} {u v x : Value} (h : Adds a b u v) (k : Adds b c v x) : Adds a c u x := by
  refine ⟨h.upd.trans k.upd ?_, ?_⟩
  · intro i hi hv
    rcases h.at' with e | ⟨j, e, hj⟩
    · rw [← e]; exact hv
    · rw [e] at hv; cases hv; omega
  · rcases k.at' with e | ⟨j, e, hj⟩
    · rw [e]; exact h.at'
    · exact .inr ⟨j, e, Nat.le_trans h.upd.size hj⟩
theorem Adds.ahead {a b c : World} {v x : Value} (h : New a b) (k : Adds b c v x) : Adds a c v x :=
  ⟨(Upd.trans (New.upd h) k.upd (fun _ _ h => h)), k.at'.imp id fun ⟨j, e, hj⟩ => ⟨j, e, Nat.le_trans h.size hj⟩⟩
theorem Adds.then {a b c : World} {v x : Value} (h : Adds a b v x) (k : New b c) : Adds a c v x :=
  ⟨h.upd.trans k (fun _ _ h => h.elim), h.at'⟩

/-- v lies in new memory -/
def Fresh (w : World) (v : Value) : Prop := ∀ k, v.ownBlock = some k → w.heap.size ≤ k
theorem Adds.made {w w0 : World} {g : Nat} {c : Nat} {n : Nat} {o : Obj} {v : Value} (hg : g = w.heap.size) (h : Adds (w.alloc o) w0 (.slice (some ⟨g, 0, none⟩) n c) v) : New w w0 ∧ Fresh w v := by
  subst hg
  refine ⟨Upd.trans ((Upd.refl _ w).alloc o) h.upd ?_, ?_⟩
  · intro i hi h
    have : w.heap.size = i := by cases h; rfl
    omega
  · intro k hk
    rcases h.at' with e | ⟨j, e, hj⟩
    · rw [e] at hk
      have : w.heap.size = k := by cases hk; rfl
      omega
    · rw [e] at hk
      cases hk
      simp at hj
      omega
theorem Fresh.adds {w a b : World} {v v' : Value} (h : Fresh w v) (hw : w.heap.size ≤ a.heap.size) (ha : Adds a b v v') : Fresh w v' := by
  intro k hk
  rcases ha.at' with e | ⟨j, e, hj⟩
  · exact h k (by rw [← e]; exact hk)
  · rw [e] at hk; cases hk; omega
theorem Upd.newAdds {w a b : World} {v v' : Value} (h : New w a) (hf : Fresh w v) (ha : Adds a b v v') : New w b :=
  Upd.trans h ha.upd (fun i hi hk => by have := hf i hk; omega)
theorem Adds.nil {w w' : World} {v : Value} (h : Adds w w' (.slice none 0 0) v) : New w w' ∧ Fresh w v := by
  refine ⟨h.upd.mono (fun k _ h => by cases h), ?_⟩
  intro k hk
  rcases h.at' with e | ⟨j, e, hj⟩
  · rw [e] at hk; cases hk
  · rw [e] at hk; cases hk; exact hj
theorem Fresh.of_new {w0 w : World} {v : Value} (hn : New w0 w) (h : Fresh w v) : Fresh w0 v := fun k hk => Nat.le_trans hn.size (h k hk)
theorem Adds.made' {w0 w w3 : World} {g c n : Nat} {o : Obj} {v : Value} (hg : g = w.heap.size) (hn : New w0 w) (h : Adds (w.alloc o) w3 (.slice (some ⟨g, 0, none⟩) n c) v) : New w0 w3 ∧ Fresh w0 v :=
  have h2 := Adds.made hg h
  ⟨New.trans hn h2.1, Fresh.of_new hn h2.2⟩
/-- the same behind the draw of an order -/
theorem Adds.drewn {w w3 : World} {c n : Nat} {o : Obj} {v : Value} (h : Adds (w.drew.alloc o) w3 (.slice (some ⟨w.heap.size, 0, none⟩) n c) v) : New w w3 ∧ Fresh w v :=
  Adds.made' (w := w.drew) rfl ((Upd.refl _ _).drew) h
/-- what is owned stays owned while other blocks are written -/
theorem ownsRow_upd {w w' : World} {base : Nat} {e : TypeId} {size : Nat} {v : Value} {n : Nat} {xs : List Value} {S : Nat → Prop}
    (h : w.ownsRow base e size v n xs) (hg : Upd S w w') (hne : ∀ k, v.ownBlock = some k → ¬ S k) : w'.ownsRow base e size v n xs := by
  refine ⟨h.1, ?_⟩
  rcases h.2 with hn | ⟨g, cap, cur, rfl, hb, hgg, rest⟩
  · exact .inl hn
  · refine .inr ⟨g, cap, cur, rfl, hb, ?_, rest⟩
    rw [hg.block g (Array.getElem?_eq_some_iff.1 hgg).1 (hne g rfl)]
    exact hgg
theorem ownsRow_new {w w' : World} {base : Nat} {e : TypeId} {size : Nat} {v : Value} {n : Nat} {xs : List Value}
    (h : w.ownsRow base e size v n xs) (hg : New w w') : w'.ownsRow base e size v n xs := ownsRow_upd h hg (fun _ _ h => h)
theorem ownsRow_base {w : World} {base base' : Nat} {e : TypeId} {size : Nat} {v : Value} {n : Nat} {xs : List Value}
    (h : w.ownsRow base e size v n xs) (hb : ∀ k, v.ownBlock = some k → base' ≤ k) : w.ownsRow base' e size v n xs := by
  refine ⟨h.1, ?_⟩
  rcases h.2 with hn | ⟨g, cap, cur, rfl, _, r⟩
  · exact .inl hn
  · exact .inr ⟨g, cap, cur, rfl, hb g rfl, r⟩

section
variable {P : Program}
/-- append to a row that is owned: it grows there, or in a new block -/
theorem run_append_adds (w : World) (t ty e : TypeId) (i : TypeInfo) (z : Value) (size bytes : Nat) (ht : P.underlying t = some (.slice e)) (hi : P.info? e = some i) (hz : i.zero = some z)
    (hsize : i.size = size) (hby : i.bytes = bytes) (hzs : z.cells.size = size) (hsz : 0 < size)
    (base : Nat) (v : Value) (n : Nat) (xs : List Value) (hown : w.ownsRow base e size v n xs)
    (a : Addr) (m c : Nat) (news : List Value) (hl : news.length = m * size) (hnews : ∀ j u, news[j]? = some u → w.cell? (a.add j) = some u) (h1 : ∀ u ∈ news, u.oneCell' = true)
    (h63 : n + m ≤ maxLen) (hbytes : (n + m) * bytes ≤ 140737488355328) (hbase : base ≤ w.heap.size) :
    ∃ v' w', (Builtin.append_ #[t, t] ty #[v, .slice (some a) m c]).run P w = .ok v' w' ∧ w'.ownsRow base e size v' (n + m) (xs ++ news) ∧ Adds w w' v v' := by
  have conv : ∀ {w' : World} {row : Option Nat}, w.grownBy w' row → Upd (fun k => row = some k) w w' := fun g =>
    ⟨g.os, g.tape, g.output, g.size, fun k hk hn => g.block k hk (fun e => hn e.symm)⟩
  rcases hown.2 with ⟨rfl, rfl⟩ | ⟨g, cap, cur, rfl, hbg, hg, hnc, hcm, hcs, htake⟩
  · have hx : xs = [] := List.eq_nil_of_length_eq_zero (by simpa using hown.1)
    subst hx
    obtain ⟨v', w', hr, ho, hg, hn⟩ := run_append_own (P := P) w w.heap.size t ty e i z size bytes ht hi hz hsize hby hzs hsz _ 0 [] (World.ownsRow_nil w _ e size) a m c news hl hnews h1 h63 hbytes (Nat.le_refl _)
    refine ⟨v', w', hr, ?_, conv hg, ?_⟩
    · exact ownsRow_base ho (fun k hk => Nat.le_trans hbase (ho.lt k hk).1)
    · cases hb : v'.ownBlock with
      | none => exact .inl rfl
      | some k => exact .inr ⟨k, rfl, (ho.lt k hb).1⟩
  · by_cases hroom : n + m ≤ cap
    · subst hsize
      have hfit : n * i.size + news.length ≤ cur.size := by rw [hl, hcs, ← Nat.add_mul]; exact Nat.mul_le_mul_right _ hroom
      have hr := run_append_room (P := P) w t ty e i ht hi g n cap cur hg a m c news hl hnews h1 hroom hfit
      obtain ⟨v', w', hr', ho, hg', _⟩ := run_append_own (P := P) w base t ty e i z i.size bytes ht hi hz rfl hby hzs hsz _ n xs hown a m c news hl hnews h1 h63 hbytes hbase
      rw [hr] at hr'
      cases hr'
      exact ⟨_, _, hr, ho, conv hg', .inl rfl⟩
    · obtain ⟨v', w', hr', ho, hg', _⟩ := run_append_own (P := P) w base t ty e i z size bytes ht hi hz hsize hby hzs hsz _ n xs hown a m c news hl hnews h1 h63 hbytes hbase
      subst hsize; subst hby
      have holds : ∀ j u, xs[j]? = some u → w.cell? ((⟨g, 0, none⟩ : Addr).add j) = some u := hown.cells (g := g) rfl
      have hr := run_append_grow (P := P) w t ty e i z ht hi hz ⟨g, 0, none⟩ n cap xs hown.1 holds a m c news hl hnews (by omega) (by simp only [maxLen] at h63; omega) (growslice_fits (by omega) hbytes)
      rw [hr] at hr'
      cases hr'
      exact ⟨_, _, hr, ho, conv hg', .inr ⟨_, rfl, Nat.le_refl _⟩⟩

/-- the walk's law for it, at a goal that is held -/
theorem held_append {ops : Array Oper} {rest : List Oper} {o : Oper} {a : Act} {Q : Exit → Act → World → Prop} {w : World} (t e : TypeId) (size bytes : Nat) (z : Value)
    (hinfo : (P.info? e).map (fun i => (i.zero, i.size, i.bytes)) = some (some z, size, bytes)) (ht : P.underlying t = some (.slice e)) (hzs : z.cells.size = size) (hsz : 0 < size)
    (s x : Operand) (hgd : o.guard = none) (ho : o.op = .call { callee := .builtin .append, args := #[s, x], argTypes := #[t, t] })
    (base : Nat) (v : Value) (n : Nat) (xs : List Value) (hs : a.eval s = v) (hown : w.ownsRow base e size v n xs)
    (ad : Addr) (m c : Nat) (news : List Value) (hx : a.eval x = .slice (some ad) m c) (hl : news.length = m * size) (hnews : ∀ j u, news[j]? = some u → w.cell? (ad.add j) = some u) (h1 : ∀ u ∈ news, u.oneCell' = true)
    (h63 : n + m ≤ maxLen) (hbytes : (n + m) * bytes ≤ 140737488355328) (hbase : base ≤ w.heap.size)
    (h : ∀ v' w', w'.ownsRow base e size v' (n + m) (xs ++ news) → Adds w w' v v' → wpList P ops Q rest (a.put o.dst v') w') : Hold (wpList P ops Q (o :: rest) a w) := by
  obtain ⟨i, hi, h2, h3, h4⟩ := info_parts hinfo
  refine wpList_plain hgd fun K hK => ?_
  obtain ⟨v', w', hr, hw, ha⟩ := run_append_adds (P := P) w t o.type e i z size bytes ht hi h2 h3 h4 hzs hsz base v n xs hown ad m c news hl hnews h1 h63 hbytes hbase
  unfold Oper.wp execOp
  simp only [ho, resolve, invoke, builtin, Sem.run_bind, Sem.run_pure, Result.andThen_ok, List.map_toArray, List.map_cons, List.map_nil, hs, hx, hr]
  exact hK _ _ (h v' w' hw ha)

/-- one element of one cell, laid in a block of its own ahead of it -/
theorem held_append1 {ops : Array Oper} {rest : List Oper} {o : Oper} {a : Act} {Q : Exit → Act → World → Prop} {w : World} (t e : TypeId) (bytes : Nat) (z : Value)
    (hinfo : (P.info? e).map (fun i => (i.zero, i.size, i.bytes)) = some (some z, 1, bytes)) (ht : P.underlying t = some (.slice e)) (hzs : z.cells.size = 1)
    (s x : Operand) (hgd : o.guard = none) (ho : o.op = .call { callee := .builtin .append, args := #[s, x], argTypes := #[t, t] })
    (base : Nat) (v : Value) (n : Nat) (xs : List Value) (hs : a.eval s = v) (hown : w.ownsRow base e 1 v n xs)
    (y : Value) (hx : a.eval x = .slice (some ⟨w.heap.size, 0, none⟩) 1 1) (h1 : y.oneCell' = true)
    (h63 : n + 1 ≤ maxLen) (hbytes : (n + 1) * bytes ≤ 140737488355328) (hbase : base ≤ w.heap.size)
    (h : ∀ v' w', w'.ownsRow base e 1 v' (n + 1) (xs ++ [y]) → Adds w w' v v' → wpList P ops Q rest (a.put o.dst v') w') :
    Hold (wpList P ops Q (o :: rest) a (w.alloc (.cells #[y] e))) := by
  refine held_append t e 1 bytes z hinfo ht hzs (by decide) s x hgd ho base v n xs hs (hown.alloc _) ⟨w.heap.size, 0, none⟩ 1 1 [y] hx rfl ?_ ?_ h63 hbytes (by simp; omega) ?_
  · intro j u hj
    match j, hj with
    | 0, hj => simp at hj; subst hj; simp [Addr.add]
  · intro u hu; simp at hu; subst hu; exact h1
  · intro v' w' ho ha
    exact h v' w' ho (Adds.ahead ((Upd.refl _ _).alloc _) ha)
end
end Go.Proofs.Own

namespace Go.Proofs.Leb

/-- the value of digits to the base 128, the lowest first -/
def val : List UInt8 → Nat
  | [] => 0
  | x :: t => x.toNat % 128 + 128 * val t

/-- how many bytes there are ahead of the first below 128 -/
def stop : List UInt8 → Nat
  | [] => 0
  | x :: t => if x.toNat < 128 then 0 else stop t + 1

theorem u8_lt (x : UInt8) : x.toNat < 256 := x.toNat_lt

theorem val_nil : val [] = 0 := rfl
theorem val_append (a b : List UInt8) : val (a ++ b) = val a + 128 ^ a.length * val b := by
  induction a with
  | nil => simp [val]
  | cons x t ih => simp only [List.cons_append, val, ih, List.length_cons, Nat.pow_succ, Nat.mul_add]; rw [Nat.mul_comm (128 ^ t.length) 128, Nat.mul_assoc]; omega
theorem val_lt (a : List UInt8) : val a < 128 ^ a.length := by
  induction a with
  | nil => simp [val]
  | cons x t ih =>
    simp only [val, List.length_cons, Nat.pow_succ]
    have := Nat.mod_lt x.toNat (show 0 < 128 by decide)
    omega
theorem take_snoc (l : List UInt8) (k : Nat) (h : k < l.length) : l.take (k + 1) = l.take k ++ [l[k]] := by
  rw [List.take_succ_eq_append_getElem h]
theorem val_take_succ (l : List UInt8) (k : Nat) (h : k < l.length) : val (l.take (k + 1)) = val (l.take k) + 128 ^ k * (l[k].toNat % 128) := by
  rw [take_snoc l k h, val_append]
  have : (l.take k).length = k := by simp; omega
  rw [this]
  simp [val]
theorem val_take_lt (l : List UInt8) (k : Nat) : val (l.take k) < 128 ^ k := by
  have h := val_lt (l.take k)
  have h2 : (l.take k).length ≤ k := by simp; omega
  exact Nat.lt_of_lt_of_le h (Nat.pow_le_pow_right (by decide) h2)

theorem stop_le (l : List UInt8) : stop l ≤ l.length := by
  induction l with
  | nil => simp [stop]
  | cons x t ih => simp only [stop, List.length_cons]; split <;> omega
theorem stop_before (l : List UInt8) (i : Nat) (h : i < stop l) (hl : i < l.length) : 128 ≤ l[i].toNat := by
  induction l generalizing i with
  | nil => simp at hl
  | cons x t ih =>
    simp only [stop] at h
    split at h
    · omega
    · cases i with
      | zero => simpa using by omega
      | succ i => simpa using ih i (by omega) (by simpa using hl)
theorem stop_at (l : List UInt8) (h : stop l < l.length) : l[stop l].toNat < 128 := by
  induction l with
  | nil => simp at h
  | cons x t ih =>
    simp only [stop] at h ⊢
    split
    · simpa
    · rename_i hx
      rw [if_neg hx] at h
      simpa using ih (by simpa using h)
/-- what stands at a place tells where the end is -/
theorem stop_step (l : List UInt8) (i : Nat) (h : i ≤ stop l) (hl : i < l.length) : (l[i].toNat < 128 → stop l = i) ∧ (128 ≤ l[i].toNat → i + 1 ≤ stop l) := by
  constructor
  · intro hx
    rcases Nat.lt_or_ge i (stop l) with h1 | h1
    · have := stop_before l i h1 hl; omega
    · omega
  · intro hx
    rcases Nat.lt_or_ge i (stop l) with h1 | h1
    · omega
    · have e : stop l = i := by omega
      have := stop_at l (by omega)
      simp only [e] at this
      omega

/-- a number without a sign, in so many bytes more than it needs -/
def encU (v more : Nat) : List UInt8 :=
  if v ≤ 127 ∧ more = 0 then [UInt8.ofNat v] else UInt8.ofNat (v % 128 + 128) :: encU (v / 128) (if v ≤ 127 then more - 1 else more)
termination_by v + more
decreasing_by
  split
  · omega
  · omega

theorem encU_last (v : Nat) (h : v ≤ 127) : encU v 0 = [UInt8.ofNat v] := by rw [encU]; simp [h]
theorem encU_more (v more : Nat) (h : 127 < v ∨ 0 < more) : encU v more = UInt8.ofNat (v % 128 + 128) :: encU (v / 128) (if v ≤ 127 then more - 1 else more) := by
  rw [encU, if_neg (by omega)]

theorem u8_of (n : Nat) (h : n < 256) : (UInt8.ofNat n).toNat = n := by
  simp only [UInt8.toNat_ofNat']; omega

theorem encU_ne (v more : Nat) : 0 < (encU v more).length := by
  rw [encU]; split <;> simp

theorem encU_val : ∀ (v more : Nat), val (encU v more) = v := by
  intro v more
  induction v, more using encU.induct with
  | case1 v more h =>
    obtain ⟨h1, rfl⟩ := h
    rw [encU_last v h1]; simp only [val, u8_of v (by omega)]; omega
  | case2 v more h ih =>
    simp only [dite_eq_ite] at ih
    rw [encU_more v more (by omega)]
    simp only [val, ih, u8_of (v % 128 + 128) (by omega)]
    omega

theorem encU_stop (r : List UInt8) : ∀ (v more : Nat), stop (encU v more ++ r) + 1 = (encU v more).length := by
  intro v more
  induction v, more using encU.induct with
  | case1 v more h =>
    obtain ⟨h1, rfl⟩ := h
    rw [encU_last v h1]
    simp [stop, u8_of v (by omega)]; omega
  | case2 v more h ih =>
    simp only [dite_eq_ite] at ih
    rw [encU_more v more (by omega)]
    simp only [List.cons_append, stop, u8_of (v % 128 + 128) (by omega), List.length_cons]
    rw [if_neg (by omega)]
    omega

theorem encU_zero (more : Nat) : (encU 0 more).length = more + 1 := by
  induction more with
  | zero => rw [encU_last 0 (by decide)]; rfl
  | succ n ih => rw [encU_more 0 (n + 1) (by omega)]; simp [ih]

theorem encU_len : ∀ (v more : Nat), (encU v more).length = (encU v 0).length + more := by
  intro v
  induction v using Nat.strongRecOn with
  | _ v ih =>
    intro more
    by_cases h : v ≤ 127
    · rw [encU_last v h]
      by_cases hm : more = 0
      · subst hm; rw [encU_last v h]; rfl
      · rw [encU_more v more (by omega), if_pos h]
        have : v / 128 = 0 := by omega
        rw [this]
        simp only [List.length_cons, encU_zero, List.length_nil]
        omega
    · rw [encU_more v more (by omega), encU_more v 0 (by omega), if_neg h, if_neg h]
      simp only [List.length_cons, ih (v / 128) (by omega) more]
      omega

theorem encU_len_le : ∀ (k v : Nat), 0 < k → v < 128 ^ k → (encU v 0).length ≤ k := by
  intro k
  induction k with
  | zero => intro v h; omega
  | succ k ih =>
    intro v _ hv
    by_cases h : v ≤ 127
    · rw [encU_last v h]; simp
    · rw [encU_more v 0 (by omega), if_neg h]
      simp only [List.length_cons]
      have hk : 0 < k := by
        rcases Nat.eq_zero_or_pos k with rfl | hk
        · simp at hv; omega
        · exact hk
      have := ih (v / 128) hk (by rw [Nat.pow_succ] at hv; omega)
      omega

/-- a number that needs more bytes is great -/
theorem encU_len_ge : ∀ (k v : Nat), 128 ^ k ≤ v → k < (encU v 0).length := by
  intro k
  induction k with
  | zero => intro v _; exact encU_ne v 0
  | succ k ih =>
    intro v hv
    have h1 : 128 * 128 ^ k ≤ v := by rw [Nat.pow_succ] at hv; omega
    have h2 : 0 < 128 ^ k := Nat.pow_pos (by decide)
    by_cases h : v ≤ 127
    · omega
    · rw [encU_more v 0 (by omega), if_neg h]
      simp only [List.length_cons]
      have := ih (v / 128) (by omega)
      omega

/-! ### numbers with a sign -/

/-- the value of digits with a sign -/
def sval : List UInt8 → Int
  | [] => 0
  | [x] => if x.toNat % 128 < 64 then (x.toNat % 128 : Nat) else (x.toNat % 128 : Nat) - 128
  | x :: y :: t => (x.toNat % 128 : Nat) + 128 * sval (y :: t)

/-- a number with a sign, in so many bytes more than it needs -/
def encS (v : Int) (more : Nat) : List UInt8 :=
  if -64 ≤ v ∧ v ≤ 63 ∧ more = 0 then [UInt8.ofNat (v % 128).toNat]
  else UInt8.ofNat ((v % 128).toNat + 128) :: encS (v / 128) (if -64 ≤ v ∧ v ≤ 63 then more - 1 else more)
termination_by v.natAbs + more
decreasing_by
  split <;> omega

theorem encS_last (v : Int) (h1 : -64 ≤ v) (h2 : v ≤ 63) : encS v 0 = [UInt8.ofNat (v % 128).toNat] := by rw [encS]; simp [h1, h2]
theorem encS_more (v : Int) (more : Nat) (h : v < -64 ∨ 63 < v ∨ 0 < more) :
    encS v more = UInt8.ofNat ((v % 128).toNat + 128) :: encS (v / 128) (if -64 ≤ v ∧ v ≤ 63 then more - 1 else more) := by
  rw [encS, if_neg (by omega)]
theorem encS_ne (v : Int) (more : Nat) : 0 < (encS v more).length := by
  rw [encS]; split <;> simp

theorem sval_cons (x : UInt8) (t : List UInt8) (h : 0 < t.length) : sval (x :: t) = (x.toNat % 128 : Nat) + 128 * sval t := by
  cases t with
  | nil => simp at h
  | cons y t => rfl

theorem encS_val : ∀ (v : Int) (more : Nat), sval (encS v more) = v := by
  intro v more
  induction v, more using encS.induct with
  | case1 v more h =>
    obtain ⟨h1, h2, rfl⟩ := h
    rw [encS_last v h1 h2]; simp only [sval, u8_of (v % 128).toNat (by omega)]; split <;> omega
  | case2 v more h ih =>
    simp only [dite_eq_ite] at ih
    rw [encS_more v more (by omega), sval_cons _ _ (encS_ne _ _), ih, u8_of _ (by omega)]
    omega

theorem encS_stop (r : List UInt8) : ∀ (v : Int) (more : Nat), stop (encS v more ++ r) + 1 = (encS v more).length := by
  intro v more
  induction v, more using encS.induct with
  | case1 v more h =>
    obtain ⟨h1, h2, rfl⟩ := h
    rw [encS_last v h1 h2]
    simp [stop, u8_of (v % 128).toNat (by omega)]; omega
  | case2 v more h ih =>
    simp only [dite_eq_ite] at ih
    rw [encS_more v more (by omega)]
    simp only [List.cons_append, stop, u8_of ((v % 128).toNat + 128) (by omega), List.length_cons]
    rw [if_neg (by omega)]
    omega

theorem encS_small (v : Int) (h : v = 0 ∨ v = -1) (more : Nat) : (encS v more).length = more + 1 := by
  induction more with
  | zero => rw [encS_last v (by omega) (by omega)]; rfl
  | succ n ih =>
    rw [encS_more v (n + 1) (by omega), if_pos (by omega)]
    have e : v / 128 = v := by omega
    rw [e]
    simp [ih]

theorem encS_len : ∀ (n : Nat) (v : Int) (more : Nat), v.natAbs ≤ n → (encS v more).length = (encS v 0).length + more := by
  intro n
  induction n with
  | zero =>
    intro v more hv
    rw [encS_small v (by omega), encS_small v (by omega)]; omega
  | succ n ih =>
    intro v more hv
    by_cases h : -64 ≤ v ∧ v ≤ 63
    · rw [encS_last v h.1 h.2]
      by_cases hm : more = 0
      · subst hm; rw [encS_last v h.1 h.2]; rfl
      · rw [encS_more v more (by omega), if_pos h]
        simp only [List.length_cons, encS_small (v / 128) (by omega), List.length_nil]
        omega
    · rw [encS_more v more (by omega), encS_more v 0 (by omega), if_neg h, if_neg h]
      simp only [List.length_cons, ih (v / 128) more (by omega)]
      omega

theorem encS_len_le : ∀ (k : Nat) (v : Int), 0 < k → -(64 * 128 ^ (k - 1) : Nat) ≤ v → v < (64 * 128 ^ (k - 1) : Nat) → (encS v 0).length ≤ k := by
  intro k
  induction k with
  | zero => intro v h; omega
  | succ k ih =>
    intro v _ h1 h2
    by_cases h : -64 ≤ v ∧ v ≤ 63
    · rw [encS_last v h.1 h.2]; simp
    · rw [encS_more v 0 (by omega), if_neg h]
      simp only [List.length_cons]
      rcases Nat.eq_zero_or_pos k with rfl | hk
      · simp at h1 h2; omega
      · have e : k + 1 - 1 = (k - 1) + 1 := by omega
        rw [e, Nat.pow_succ] at h1 h2
        have := ih (v / 128) hk (by omega) (by omega)
        omega

/-- the value with a sign, by the one without -/
theorem sval_val : ∀ (l : List UInt8) (h : 0 < l.length), sval l = (val l : Int) - if (l[l.length - 1]'(by omega)).toNat % 128 < 64 then 0 else ((128 ^ l.length : Nat) : Int) := by
  intro l
  induction l with
  | nil => intro h; simp at h
  | cons x t ih =>
    intro _
    cases t with
    | nil => simp only [sval, val, List.length_cons, List.length_nil]; simp; split <;> omega
    | cons y t =>
      have hp : 0 < (y :: t).length := by simp
      rw [sval_cons x _ hp, ih hp]
      have e : ((x :: y :: t)[(x :: y :: t).length - 1]'(by simp)) = ((y :: t)[(y :: t).length - 1]'(by simp)) := by simp
      rw [e]
      simp only [val, List.length_cons, Nat.pow_succ]
      split <;> push_cast <;> omega
/-! ### taking numbers -/

/-- how many bytes a number of so many bits may have -/
def most (bits : Nat) : Nat := (bits + 6) / 7

/-- where the number ends; or where it goes wrong, and how -/
def scan (ok : Nat → Nat → Bool) (b : List UInt8) (bits : Nat) : Nat × Nat :=
  if stop b < most bits then
    if h : stop b < b.length then
      if stop b + 1 = most bits ∧ ok b[stop b].toNat (bits - 7 * stop b) = false then (stop b, 2) else (stop b + 1, 0)
    else (b.length, 1)
  else (most bits - 1, 2)

def okU (x left : Nat) : Bool := decide (x / 2 ^ left = 0)
def okS (x left : Nat) : Bool := decide (x / 2 ^ (left - 1) = 0 ∨ x / 2 ^ (left - 1) = 127 / 2 ^ (left - 1))

def decU (b : List UInt8) (bits : Nat) : Nat × Nat × Nat :=
  (if (scan okU b bits).2 = 0 then val (b.take (scan okU b bits).1) else 0, (scan okU b bits).1, (scan okU b bits).2)
def decS (b : List UInt8) (bits : Nat) : Int × Nat × Nat :=
  (if (scan okS b bits).2 = 0 then sval (b.take (scan okS b bits).1) else 0, (scan okS b bits).1, (scan okS b bits).2)

theorem scan_ok {ok : Nat → Nat → Bool} {b : List UInt8} {bits : Nat} (h : (scan ok b bits).2 = 0) :
    ∃ hl : stop b < b.length, stop b < most bits ∧ (scan ok b bits).1 = stop b + 1 ∧ (stop b + 1 = most bits → ok b[stop b].toNat (bits - 7 * stop b) = true) := by
  unfold scan at h ⊢
  split at h
  · rename_i hs
    split at h
    · rename_i hl
      split at h
      · simp at h
      · rename_i hn
        refine ⟨hl, hs, ?_, ?_⟩
        · rw [if_pos hs, dif_pos hl, if_neg hn]
        · intro he
          cases hk : ok b[stop b].toNat (bits - 7 * stop b)
          · exact absurd ⟨he, hk⟩ hn
          · rfl
    · simp at h
  · simp at h

theorem scan_mk {ok : Nat → Nat → Bool} {b : List UInt8} {bits : Nat} (hl : stop b < b.length) (hs : stop b < most bits)
    (hk : stop b + 1 = most bits → ok b[stop b].toNat (bits - 7 * stop b) = true) : scan ok b bits = (stop b + 1, 0) := by
  unfold scan
  rw [if_pos hs, dif_pos hl, if_neg]
  rintro ⟨h1, h2⟩
  rw [hk h1] at h2
  cases h2

theorem stop_take (b : List UInt8) (k : Nat) (h : k ≤ stop b) : stop (b.take k) = k := by
  have hl := stop_le b
  induction b generalizing k with
  | nil => simp [stop] at h ⊢; omega
  | cons x t ih =>
    cases k with
    | zero => rfl
    | succ k =>
      simp only [stop] at h
      split at h
      · omega
      · rename_i hx
        simp only [List.take_succ_cons, stop, if_neg hx]
        rw [ih k (by omega) (stop_le t)]

/-- cut ahead of its end, bytes lack -/
theorem scan_cut {ok : Nat → Nat → Bool} {b : List UInt8} {bits : Nat} (k : Nat) (h : k ≤ stop b) (hk : k < most bits) : scan ok (b.take k) bits = (k, 1) := by
  have h1 := stop_take b k h
  have h2 := stop_le b
  have h3 : (b.take k).length = k := by rw [List.length_take]; omega
  unfold scan
  rw [h1, if_pos hk, dif_neg (by omega), h3]

theorem most_bits (bits : Nat) (h : 1 ≤ bits) : 1 ≤ most bits ∧ 7 * (most bits - 1) < bits ∧ bits ≤ 7 * most bits := by
  unfold most; omega

/-! ### what is put is taken -/
theorem pow128 (k : Nat) : (128 : Nat) ^ k = 2 ^ (7 * k) := by rw [Nat.pow_mul]

theorem val_take_stop (l : List UInt8) (h : 0 < l.length) : val l = val (l.take (l.length - 1)) + 128 ^ (l.length - 1) * ((l[l.length - 1]'(by omega)).toNat % 128) := by
  have h1 := val_take_succ l (l.length - 1) (by omega)
  rw [show l.length - 1 + 1 = l.length by omega, List.take_length] at h1
  exact h1

theorem back_scanU (v more : Nat) (r : List UInt8) (hv : v < 2 ^ 64) (hm : (encU v more).length ≤ 10) : scan okU (encU v more ++ r) 64 = ((encU v more).length, 0) := by
  have hs := encU_stop r v more
  have hn := encU_ne v more
  have hl : stop (encU v more ++ r) < (encU v more ++ r).length := by rw [List.length_append]; omega
  have hm10 : most 64 = 10 := rfl
  rw [scan_mk hl (by omega), hs]
  intro he
  have e9 : (encU v more).length = 10 := by omega
  have e9' : stop (encU v more ++ r) = 9 := by omega
  have h10 := val_take_stop (encU v more) hn
  rw [encU_val] at h10
  have hx : (encU v more ++ r)[stop (encU v more ++ r)] = (encU v more)[(encU v more).length - 1]'(by omega) := by
    simp only [e9', e9]; rw [List.getElem_append_left]
  have hlt := stop_at _ hl
  rw [hx] at hlt ⊢
  simp only [okU, e9', e9] at hlt h10 ⊢
  simp only [decide_eq_true_eq]
  generalize ((encU v more)[10 - 1]'(by omega)).toNat = x at hlt h10 ⊢
  have : x < 2 := by
    rcases Nat.lt_or_ge x 2 with h | h
    · exact h
    · have h2 : 128 ^ (10 - 1) * 2 ≤ 128 ^ (10 - 1) * (x % 128) := Nat.mul_le_mul_left _ (by omega)
      have h3 : (128 : Nat) ^ (10 - 1) * 2 = 2 ^ 64 := by decide
      omega
  show x / 2 ^ (64 - 7 * 9) = 0
  simp; omega

theorem back_decU (v more : Nat) (r : List UInt8) (hv : v < 2 ^ 64) (hm : (encU v more).length ≤ 10) : decU (encU v more ++ r) 64 = (v, (encU v more).length, 0) := by
  unfold decU
  rw [back_scanU v more r hv hm, if_pos rfl, List.take_left, encU_val]

theorem back_scanS (v : Int) (more : Nat) (r : List UInt8) (h1 : -9223372036854775808 ≤ v) (h2 : v < 9223372036854775808) (hm : (encS v more).length ≤ 10) :
    scan okS (encS v more ++ r) 64 = ((encS v more).length, 0) := by
  have hs := encS_stop r v more
  have hn := encS_ne v more
  have hl : stop (encS v more ++ r) < (encS v more ++ r).length := by rw [List.length_append]; omega
  have hm10 : most 64 = 10 := rfl
  rw [scan_mk hl (by omega), hs]
  intro he
  have e9 : (encS v more).length = 10 := by omega
  have e9' : stop (encS v more ++ r) = 9 := by omega
  have h10 := val_take_stop (encS v more) hn
  have h11 := sval_val (encS v more) hn
  have hb := val_take_lt (encS v more) 9
  rw [encS_val] at h11
  have hx : (encS v more ++ r)[stop (encS v more ++ r)] = (encS v more)[(encS v more).length - 1]'(by omega) := by
    simp only [e9', e9]; rw [List.getElem_append_left]
  have hlt := stop_at _ hl
  rw [hx] at hlt ⊢
  simp only [okS, e9', e9] at hlt h10 h11 ⊢
  simp only [decide_eq_true_eq]
  generalize ((encS v more)[10 - 1]'(by omega)).toNat = x at hlt h10 h11 ⊢
  have p9 : (128 : Nat) ^ 9 = 9223372036854775808 := by decide
  have p10 : (128 : Nat) ^ 10 = 1180591620717411303424 := by decide
  rw [show (10 - 1 : Nat) = 9 from rfl, p9] at h10
  rw [p9] at hb
  rw [p10, h10] at h11
  have hx128 : x % 128 = x := Nat.mod_eq_of_lt hlt
  rw [hx128] at h11
  show x / 2 ^ (64 - 7 * 9 - 1) = 0 ∨ x / 2 ^ (64 - 7 * 9 - 1) = 127 / 2 ^ (64 - 7 * 9 - 1)
  rw [show 64 - 7 * 9 - 1 = 0 from rfl, Nat.pow_zero, Nat.div_one, Nat.div_one]
  have h12 : v = ((val ((encS v more).take 9) + 9223372036854775808 * x : Nat) : Int) - if x < 64 then 0 else 1180591620717411303424 := h11
  clear h11
  split at h12 <;> omega

theorem back_decS (v : Int) (more : Nat) (r : List UInt8) (h1 : -9223372036854775808 ≤ v) (h2 : v < 9223372036854775808) (hm : (encS v more).length ≤ 10) :
    decS (encS v more ++ r) 64 = (v, (encS v more).length, 0) := by
  unfold decS
  rw [back_scanS v more r h1 h2 hm, if_pos rfl, List.take_left, encS_val]

/-! ### the sizes of what is taken -/
theorem decU_lt (b : List UInt8) (bits : Nat) (hb : 1 ≤ bits) : (decU b bits).1 < 2 ^ bits := by
  unfold decU
  simp only
  split
  · rename_i h
    obtain ⟨hl, hs, e, hk⟩ := scan_ok h
    have hm := most_bits bits hb
    rw [e, val_take_succ b _ hl]
    have hv := val_take_lt b (stop b)
    rw [pow128] at hv ⊢
    rcases Nat.lt_or_ge (stop b + 1) (most bits) with h1 | h1
    · have h3 : 2 ^ (7 * stop b) * (b[stop b].toNat % 128) ≤ 2 ^ (7 * stop b) * 127 := Nat.mul_le_mul_left _ (by omega)
      have h4 : (2 : Nat) ^ (7 * stop b + 7) ≤ 2 ^ bits := Nat.pow_le_pow_right (by decide) (by omega)
      rw [Nat.pow_add] at h4
      omega
    · have h2 := hk (by omega)
      simp only [okU, decide_eq_true_eq] at h2
      have h5 : b[stop b].toNat < 2 ^ (bits - 7 * stop b) := by
        rcases Nat.lt_or_ge b[stop b].toNat (2 ^ (bits - 7 * stop b)) with h | h
        · exact h
        · have := Nat.div_pos h (Nat.pow_pos (by decide)); omega
      have h6 : 2 ^ (7 * stop b) * (b[stop b].toNat % 128) ≤ 2 ^ (7 * stop b) * (2 ^ (bits - 7 * stop b) - 1) := Nat.mul_le_mul_left _ (by omega)
      have h7 : 2 ^ (7 * stop b) * 2 ^ (bits - 7 * stop b) = 2 ^ bits := by rw [← Nat.pow_add]; congr 1; omega
      have h8 : 0 < 2 ^ (bits - 7 * stop b) := Nat.pow_pos (by decide)
      rw [Nat.mul_sub, h7] at h6
      have h9 : 2 ^ (7 * stop b) * 1 ≤ 2 ^ bits := by rw [← h7]; exact Nat.mul_le_mul_left _ h8
      omega
  · exact Nat.pow_pos (by decide)

theorem most_mono {s g : Nat} (h : s ≤ g) : most s ≤ most g := by unfold most; omega

theorem small_scan {ok : Nat → Nat → Bool} {b : List UInt8} {s g : Nat} (hs : 1 ≤ s) (hg : s ≤ g) (h : (scan ok b s).2 = 0)
    (hok : ∀ x l l', x < 128 → 1 ≤ l → l ≤ l' → ok x l = true → ok x l' = true) : scan ok b g = scan ok b s := by
  obtain ⟨hl, h1, e, hk⟩ := scan_ok h
  have hm := most_mono hg
  have hb := most_bits s hs
  have e1 := scan_mk hl h1 hk
  rw [e1]
  refine scan_mk hl (by omega) fun he => ?_
  exact hok _ _ _ (stop_at b hl) (by omega) (by omega) (hk (by omega))

theorem okU_mono (x l l' : Nat) (_ : x < 128) (_ : 1 ≤ l) (h : l ≤ l') (hk : okU x l = true) : okU x l' = true := by
  simp only [okU, decide_eq_true_eq] at hk ⊢
  have : 2 ^ l ≤ 2 ^ l' := Nat.pow_le_pow_right (by decide) h
  have h0 : 0 < 2 ^ l := Nat.pow_pos (by decide)
  have h1 : x < 2 ^ l := by
    rcases Nat.lt_or_ge x (2 ^ l) with h | h
    · exact h
    · have := Nat.div_pos h h0; omega
  exact Nat.div_eq_of_lt (by omega)
theorem okS_mono (x l l' : Nat) (_ : x < 128) (h1 : 1 ≤ l) (h : l ≤ l') (hk : okS x l = true) : okS x l' = true := by
  simp only [okS, decide_eq_true_eq] at hk ⊢
  have e : 2 ^ (l' - 1) = 2 ^ (l - 1) * 2 ^ (l' - l) := by rw [← Nat.pow_add]; congr 1; omega
  rw [e, ← Nat.div_div_eq_div_mul, ← Nat.div_div_eq_div_mul]
  rcases hk with hk | hk
  · left; rw [hk]; simp
  · right; rw [hk]

theorem small_decU {b : List UInt8} {s g : Nat} (hs : 1 ≤ s) (hg : s ≤ g) (h : (decU b s).2.2 = 0) : decU b g = decU b s := by
  have h' : (scan okU b s).2 = 0 := h
  unfold decU
  rw [small_scan hs hg h' okU_mono]
theorem small_decS {b : List UInt8} {s g : Nat} (hs : 1 ≤ s) (hg : s ≤ g) (h : (decS b s).2.2 = 0) : decS b g = decS b s := by
  have h' : (scan okS b s).2 = 0 := h
  unfold decS
  rw [small_scan hs hg h' okS_mono]

/-- a top digit, with its sign -/
def top (x : Nat) : Int := if x < 64 then x else (x : Int) - 128

theorem sval_take_succ (b : List UInt8) (k : Nat) (h : k < b.length) (hx : b[k].toNat < 128) :
    sval (b.take (k + 1)) = (val (b.take k) : Int) + ((128 ^ k : Nat) : Int) * top b[k].toNat := by
  have hlen : (b.take (k + 1)).length = k + 1 := by rw [List.length_take]; omega
  have h1 := sval_val (b.take (k + 1)) (by omega)
  have h2 : (b.take (k + 1))[(b.take (k + 1)).length - 1]'(by omega) = b[k] := by
    simp only [hlen, Nat.add_sub_cancel, List.getElem_take]
  rw [h2, Nat.mod_eq_of_lt hx, hlen, val_take_succ b k h, Nat.mod_eq_of_lt hx, Nat.pow_succ] at h1
  rw [h1]
  unfold top
  generalize 128 ^ k = P
  generalize b[k].toNat = x at hx ⊢
  split
  · push_cast; omega
  · push_cast; rw [Int.mul_sub]; omega

theorem decS_range (b : List UInt8) (bits : Nat) (hb : 1 ≤ bits) : -((2 ^ (bits - 1) : Nat) : Int) ≤ (decS b bits).1 ∧ (decS b bits).1 < ((2 ^ (bits - 1) : Nat) : Int) := by
  have hpos : 0 < 2 ^ (bits - 1) := Nat.pow_pos (by decide)
  unfold decS
  simp only
  split
  · rename_i h
    obtain ⟨hl, hs, e, hk⟩ := scan_ok h
    have hm := most_bits bits hb
    have hx := stop_at b hl
    rw [e, sval_take_succ b _ hl hx]
    have hv := val_take_lt b (stop b)
    have key : ∃ q : Nat, 128 ^ stop b * 2 ^ q ≤ 2 ^ (bits - 1) ∧ -((2 ^ q : Nat) : Int) ≤ top b[stop b].toNat ∧ top b[stop b].toNat < ((2 ^ q : Nat) : Int) := by
      rcases Nat.lt_or_ge (stop b + 1) (most bits) with h1 | h1
      · refine ⟨6, ?_, ?_, ?_⟩
        · rw [pow128, ← Nat.pow_add]; exact Nat.pow_le_pow_right (by decide) (by omega)
        · unfold top; split <;> omega
        · unfold top; split <;> omega
      · have h2 := hk (by omega)
        simp only [okS, decide_eq_true_eq] at h2
        have h7 : bits - 7 * stop b ≤ 7 := by omega
        have h8 : 1 ≤ bits - 7 * stop b := by omega
        refine ⟨bits - 7 * stop b - 1, ?_, ?_⟩
        · rw [pow128, ← Nat.pow_add]; exact Nat.pow_le_pow_right (by decide) (by omega)
        · generalize bits - 7 * stop b = l at h2 h7 h8
          generalize b[stop b].toNat = x at hx h2 ⊢
          have hlv : l = 1 ∨ l = 2 ∨ l = 3 ∨ l = 4 ∨ l = 5 ∨ l = 6 ∨ l = 7 := by omega
          unfold top
          rcases hlv with rfl | rfl | rfl | rfl | rfl | rfl | rfl <;> simp at h2 ⊢ <;> split <;> omega
    obtain ⟨q, k1, k2, k3⟩ := key
    generalize 128 ^ stop b = P at hv k1
    generalize 2 ^ q = Q at k1 k2 k3
    generalize top b[stop b].toNat = T at k2 k3
    generalize val (List.take (stop b) b) = V at hv
    have m1 : (P : Int) * -(Q : Int) ≤ P * T := Int.mul_le_mul_of_nonneg_left k2 (by omega)
    have m2 : (P : Int) * T ≤ P * (Q - 1) := Int.mul_le_mul_of_nonneg_left (by omega) (by omega)
    rw [Int.mul_neg] at m1
    rw [Int.mul_sub] at m2
    have m3 : (P : Int) * Q ≤ ((2 ^ (bits - 1) : Nat) : Int) := by rw [← Int.natCast_mul]; exact Int.ofNat_le.2 k1
    omega
  · omega

end Go.Proofs.Leb

namespace Go.Proofs.YtbllpajibhiobaaDoor
open Go.RowKit Go.Proofs.Leb Go.Proofs.Own

/-- the byte type's row -/
theorem info5 : (Tryd.prog.info? 5).map (fun i => (i.zero, i.size, i.bytes)) = some (some (.int .u8 0), 1, 1) := by kernel_rfl

/-- a byte, as a cell -/
def cb (x : UInt8) : Value := .int .u8 x.toNat
/-- v is a row of bytes that the call owns -/
def Bytes (w : World) (v : Value) (bs : List UInt8) : Prop := w.ownsRow 0 5 1 v bs.length (bs.map cb)

theorem Bytes.one {w : World} {v : Value} {bs : List UInt8} (n : Int) (x : UInt8) (h : n = x.toNat) (hw : w.ownsRow 0 5 1 v (bs.length + 1) (bs.map cb ++ [.int .u8 n])) : Bytes w v (bs ++ [x]) := by
  subst h
  unfold Bytes
  rw [List.length_append, List.map_append]
  exact hw

theorem or128_fin : ∀ b : Fin 256, b.val ||| 128 = b.val % 128 + 128 := by decide +kernel
theorem or128 (x : Nat) : bits .or .u8 ((x : Int) % 256) 128 = ((x % 128 + 128 : Nat) : Int) := by
  have e : ((x : Int) % 256) = ((x % 256 : Nat) : Int) := by omega
  rw [e]
  have := u8_or_nat (x % 256) 128 (by omega) (by omega)
  rw [show ((128 : Nat) : Int) = 128 from rfl] at this
  rw [this]
  have := or128_fin ⟨x % 256, by omega⟩
  simp only at this
  rw [this]
  congr 1
  omega
theorem or128i (x : Int) : bits .or .u8 (x % 256) 128 = x % 128 + 128 := by
  have h := or128 (x % 256).toNat
  have e : (((x % 256).toNat : Nat) : Int) % 256 = x % 256 := by omega
  rw [e] at h
  rw [h]
  omega
theorem and127i (x : Int) : bits .and .u8 (x % 256) 127 = x % 128 := by
  have e : (x % 256) = (((x % 256).toNat : Nat) : Int) := by omega
  rw [e]
  have h := u8_and_nat (x % 256).toNat 127 (by omega) (by omega)
  rw [show ((127 : Nat) : Int) = 127 from rfl] at h
  rw [h, nat_mask7]
  omega
theorem tmod128 (y : Int) (h : y < 0) : y.tmod 128 = if y % 128 = 0 then 0 else y % 128 - 128 := by
  have e : y.tmod 128 = -((-y).tmod 128) := by rw [Int.neg_tmod, Int.neg_neg]
  rw [e, Int.tmod_eq_emod_of_nonneg (by omega)]
  split <;> omega
theorem tdiv128 (y : Int) : (y - y % 128).tdiv 128 = y / 128 := by
  have e : y - y % 128 = y / 128 * 128 := by omega
  rw [e, Int.mul_tdiv_cancel _ (by decide)]
theorem hid {p : Prop} (h : p) : Hid p := h

/-- a slice of bytes that can be read -/
def Rd (w : World) (v : Value) (bs : List UInt8) : Prop :=
  ∃ a cap, v = .slice a bs.length cap ∧ bs.length ≤ cap ∧ (a = none → cap = 0) ∧ (bs ≠ [] → ∃ b o, a = some ⟨b, o, none⟩ ∧ ∀ i (h : i < bs.length), w.cell? ⟨b, o + i, none⟩ = some (cb bs[i]))

theorem Rd.shape {w : World} {v : Value} {bs : List UInt8} (h : Rd w v bs) : ∃ a cap, v = .slice a bs.length cap := by
  obtain ⟨a, cap, h, -⟩ := h
  exact ⟨a, cap, h⟩
theorem Rd.nil (w : World) : Rd w (.slice none 0 0) [] := ⟨none, 0, rfl, Nat.le_refl _, fun _ => rfl, fun h => absurd rfl h⟩
theorem Rd.upd {S : Nat → Prop} {w w' : World} {v : Value} {bs : List UInt8} (h : Rd w v bs) (hu : Upd S w w') (hn : ∀ k, v.ownBlock = some k → ¬ S k) : Rd w' v bs := by
  obtain ⟨a, cap, rfl, h1, h2, h3⟩ := h
  refine ⟨a, cap, rfl, h1, h2, fun hb => ?_⟩
  obtain ⟨b, o, rfl, hc⟩ := h3 hb
  exact ⟨b, o, rfl, fun i hi => hu.cell (hc i hi) (hn b rfl)⟩
theorem Rd.new {w w' : World} {v : Value} {bs : List UInt8} (h : Rd w v bs) (hu : New w w') : Rd w' v bs := h.upd hu (fun _ _ h => h)
theorem Bytes.rd {w : World} {v : Value} {bs : List UInt8} (h : Bytes w v bs) : Rd w v bs := by
  obtain ⟨h1, h2⟩ := h
  rcases h2 with ⟨rfl, hn⟩ | ⟨g, cap, cur, rfl, _, hg, hn, hm, hs, ht⟩
  · have : bs = [] := List.eq_nil_of_length_eq_zero hn
    subst this
    exact Rd.nil w
  · refine ⟨_, cap, rfl, hn, (fun h => by cases h), fun _ => ⟨g, 0, rfl, fun i hi => ?_⟩⟩
    have hown : w.ownsRow 0 5 1 (.slice (some ⟨g, 0, none⟩) bs.length cap) bs.length (bs.map cb) := ⟨h1, .inr ⟨g, cap, cur, rfl, Nat.zero_le _, hg, hn, hm, hs, ht⟩⟩
    have := hown.cells (g := g) rfl i (cb bs[i]) (by simp [hi])
    rwa [Addr.add_lit] at this
theorem Bytes.upd {S : Nat → Prop} {w w' : World} {v : Value} {bs : List UInt8} (h : Bytes w v bs) (hu : Upd S w w') (hn : ∀ k, v.ownBlock = some k → ¬ S k) : Bytes w' v bs := ownsRow_upd h hu hn
theorem Bytes.new {w w' : World} {v : Value} {bs : List UInt8} (h : Bytes w v bs) (hu : New w w') : Bytes w' v bs := ownsRow_new h hu
theorem Bytes.nil (w : World) : Bytes w (.slice none 0 0) [] := World.ownsRow_nil w 0 _ 1
/-- '[]byte{}' -/
theorem Bytes.made (w : World) : Bytes (w.alloc (.cells #[] 5)) (.slice (some ⟨w.heap.size, 0, none⟩) 0 0) [] :=
  World.ownsRow_made w #[] 0 (Nat.zero_le _) (Nat.zero_le _) rfl

/-- append of one byte, at a goal that is held -/
theorem appB {ops : Array Oper} {rest : List Oper} {o : Oper} {a : Act} {Q : Exit → Act → World → Prop} {w : World} (s x : Operand) (u : UInt8) {v : Value} {d : List UInt8} {n : Int}
    (hb : Bytes w v d) (hn : n = u.toNat) (hl : d.length ≤ 1000000000) (hgd : o.guard = none) (ho : o.op = .call { callee := .builtin .append, args := #[s, x], argTypes := #[94, 94] })
    (hs : a.eval s = v) (hx : a.eval x = .slice (some ⟨w.heap.size, 0, none⟩) 1 1)
    (h : ∀ v' w', Bytes w' v' (d ++ [u]) → Adds w w' v v' → wpList Tryd.prog ops Q rest (a.put o.dst v') w') :
    Hold (wpList Tryd.prog ops Q (o :: rest) a (w.alloc (.cells #[.int .u8 n] 5))) :=
  held_append1 94 5 1 (.int .u8 0) info5 Tryd.underlying94 rfl s x hgd ho 0 v _ _ hs hb (.int .u8 n) hx rfl (by unfold maxLen; omega) (by omega) (Nat.zero_le _)
    fun v' w' h1 h2 => h v' w' (Bytes.one n u hn h1) h2

theorem cb_one (x : UInt8) : (cb x).oneCell' = true := rfl
/-- append of bytes: the run -/
theorem runR {w : World} {sv v : Value} {ds bs : List UInt8} (ty : TypeId)
    (hb : Bytes w sv ds) (hr : Rd w v bs) (hl : ds.length + bs.length ≤ 1000000000) :
    ∃ v' w', (Builtin.append_ #[94, 94] ty #[sv, v]).run Tryd.prog w = .ok v' w' ∧ Bytes w' v' (ds ++ bs) ∧ Adds w w' sv v' := by
  obtain ⟨ao, cap, rfl, h1, h2, h3⟩ := hr
  obtain ⟨i, hi, hz, hsz, hby⟩ := info_parts info5
  cases ao with
  | none =>
    have hc := h2 rfl
    subst hc
    have : bs = [] := List.eq_nil_of_length_eq_zero (by omega)
    subst this
    have hr := run_append_owned_none (P := Tryd.prog) w 0 94 ty 5 i 1 Tryd.underlying94 hi sv ds.length (ds.map cb) hb
    exact ⟨sv, w, hr, by simpa using hb, Adds.refl w sv⟩
  | some ad =>
    have hnews : ∀ j u, (bs.map cb)[j]? = some u → w.cell? (ad.add j) = some u := by
      intro j u hj
      have hlt : j < bs.length := by
        have := (List.getElem?_eq_some_iff.1 hj).1
        simpa using this
      obtain ⟨b, o', e, hc⟩ := h3 (by intro e; subst e; simp at hlt)
      cases e
      have hu : u = cb bs[j] := by
        simp only [List.getElem?_map, List.getElem?_eq_getElem hlt, Option.map_some, Option.some.injEq] at hj
        exact hj.symm
      subst hu
      rw [Addr.add_lit]
      exact hc j hlt
    have hone : ∀ u ∈ bs.map cb, u.oneCell' = true := by
      intro u hu
      simp only [List.mem_map] at hu
      obtain ⟨x, _, rfl⟩ := hu
      rfl
    obtain ⟨v', w', hr, ho, ha⟩ := run_append_adds (P := Tryd.prog) w 94 ty 5 i (.int .u8 0) 1 1 Tryd.underlying94 hi hz hsz hby rfl (by decide) 0 sv ds.length (ds.map cb) hb
      ad bs.length cap (bs.map cb) (by simp) hnews hone (by unfold maxLen; omega) (by omega) (Nat.zero_le _)
    refine ⟨v', w', hr, ?_, ha⟩
    unfold Bytes
    rw [List.length_append, List.map_append]
    exact ho

/-- append of bytes, at a goal that is held -/
theorem appR {ops : Array Oper} {rest : List Oper} {o : Oper} {a : Act} {Q : Exit → Act → World → Prop} {w : World} (s x : Operand) {sv v : Value} {ds bs : List UInt8}
    (hb : Bytes w sv ds) (hr : Rd w v bs) (hl : ds.length + bs.length ≤ 1000000000) (hgd : o.guard = none) (ho : o.op = .call { callee := .builtin .append, args := #[s, x], argTypes := #[94, 94] })
    (hs : a.eval s = sv) (hx : a.eval x = v)
    (h : ∀ v' w', Bytes w' v' (ds ++ bs) → Adds w w' sv v' → wpList Tryd.prog ops Q rest (a.put o.dst v') w') :
    Hold (wpList Tryd.prog ops Q (o :: rest) a w) := by
  obtain ⟨v', w', hr, ho', ha⟩ := runR o.type hb hr hl
  refine wpList_plain hgd fun K hK => ?_
  unfold Oper.wp execOp
  simp only [ho, resolve, invoke, builtin, Sem.run_bind, Sem.run_pure, Result.andThen_ok, List.map_toArray, List.map_cons, List.map_nil, hs, hx, hr]
  exact hK _ _ (h v' w' ho' ha)

/-- append of bytes, as one step of a region that draws its order -/
theorem stepR {ops : Array Oper} {o : Oper} {a : Act} {w : World} {K : Act → World → Prop} {Q : Exit → Act → World → Prop} {E : Prop} (s x : Operand) {sv v : Value} {ds bs : List UInt8}
    (hb : Bytes w sv ds) (hr : Rd w v bs) (hl : ds.length + bs.length ≤ 1000000000) (hw : Region.wanted o (yielded ops a.tmps) = true)
    (ho : o.op = .call { callee := .builtin .append, args := #[s, x], argTypes := #[94, 94] }) (hs : a.eval s = sv) (hx : a.eval x = v)
    (h : ∀ v' w', Bytes w' v' (ds ++ bs) → Adds w w' sv v' → K (a.put o.dst v') w') :
    if Region.wanted o (yielded ops a.tmps) = true then Oper.wp Tryd.prog o a w K Q else E := by
  obtain ⟨v', w', hr, ho', ha⟩ := runR o.type hb hr hl
  rw [if_pos hw]
  unfold Oper.wp execOp
  simp only [ho, resolve, invoke, builtin, Sem.run_bind, Sem.run_pure, Result.andThen_ok, List.map_toArray, List.map_cons, List.map_nil, hs, hx, hr]
  exact h v' w' ho' ha

/-- what comes back is a new row -/
def PostN (w : World) (bs : List UInt8) (e : Ending) (w' : World) : Prop := ∃ v', e = .returned v' ∧ Bytes w' v' bs ∧ New w w' ∧ Fresh w v'

def Post (w : World) (v : Value) (bs : List UInt8) (e : Ending) (w' : World) : Prop := ∃ v', e = .returned v' ∧ Bytes w' v' bs ∧ Adds w w' v v'

end Go.Proofs.YtbllpajibhiobaaDoor

namespace Go.Proofs.Own
open Go Go.RowKit

theorem heap_at (w : World) (o : Obj) (k : Nat) : (w.alloc o).heap[k]? = if k = w.heap.size then some o else w.heap[k]? := by
  show (w.heap.push o)[k]? = _
  rw [Array.getElem?_push]

theorem hp_new {w : World} {o : Obj} {k : Nat} (h : k = w.heap.size) : (w.alloc o).heap[k]? = some o := by rw [heap_at, if_pos h]
theorem hp_old {w : World} {o x : Obj} {k : Nat} (h : k < w.heap.size) (hw : w.heap[k]? = some x) : (w.alloc o).heap[k]? = some x := by rw [heap_at, if_neg (by omega)]; exact hw

/-- a block of two cells -/
def Blk (w : World) (g : Nat) (a b : Value) (t : TypeId) : Prop := w.heap[g]? = some (.cells #[a, b] t)
theorem Blk.of {w w' : World} {a b : Value} {t : TypeId} (h : New (w.alloc (.cells #[a, b] t)) w') : Blk w' w.heap.size a b t :=
  (h.block w.heap.size (by simp) (fun h => h)).trans (hp_new rfl)
theorem Blk.ofDrew {w w' : World} {a b : Value} {t : TypeId} (h : New (w.alloc (.cells #[a, b] t)).drew w') : Blk w' w.heap.size a b t :=
  (h.block w.heap.size (by simp [World.drew]) (fun h => h)).trans (hp_new rfl)
theorem Blk.new {w w' : World} {g : Nat} {a b : Value} {t : TypeId} (h : Blk w g a b t) (hn : New w w') : Blk w' g a b t :=
  (hn.block g (Array.getElem?_eq_some_iff.1 h).1 (fun h => h)).trans h
theorem Blk.c0 {w : World} {g : Nat} {a b : Value} {t : TypeId} (h : Blk w g a b t) : w.cell? ⟨g, 0, none⟩ = some a := by
  rw [cell_of_row _ g 0 _ t (0, 0) h]; rfl
theorem Blk.c1 {w : World} {g : Nat} {a b : Value} {t : TypeId} (h : Blk w g a b t) : w.cell? ⟨g, 1, none⟩ = some b := by
  rw [cell_of_row _ g 1 _ t (0, 0) h]; rfl
theorem Blk.f {w : World} {g : Nat} {a b : Value} {t : TypeId} (h : Blk w g a b t) (i : Nat) : w.frozen? ⟨g, i, none⟩ = false := by
  unfold Blk at h
  simp [World.frozen?, h]

theorem Blk.put {w : World} {g : Nat} {a b x y : Value} {t : TypeId} (h : Blk w g a b t) : Blk ((w.setCell ⟨g, 0, none⟩ x).setCell ⟨g, 1, none⟩ y) g x y t := by
  unfold Blk at h ⊢
  simp [World.setCell, Array.getElem?_modify, h]
theorem Blk.mk {w : World} {x y : Value} {t : TypeId} : Blk (w.alloc (.cells #[x, y] t)) w.heap.size x y t := hp_new rfl
theorem Blk.put0 {w : World} {g : Nat} {a b x y : Value} {t : TypeId} (h : Blk w g a b t) : ((w.setCell ⟨g, 0, none⟩ x).setCell ⟨g, 1, none⟩ y).cell? ⟨g, 0, none⟩ = some x := by
  have hne : (⟨g, 1, none⟩ : Addr) ≠ ⟨g, 0, none⟩ := by intro e; cases e
  exact (World.cell?_setCell_other _ _ _ _ hne).trans (World.cell?_setCell_same _ _ _ h.c0)
theorem Blk.put1 {w : World} {g : Nat} {a b x y : Value} {t : TypeId} (h : Blk w g a b t) : ((w.setCell ⟨g, 0, none⟩ x).setCell ⟨g, 1, none⟩ y).cell? ⟨g, 1, none⟩ = some y := by
  have hne : (⟨g, 0, none⟩ : Addr) ≠ ⟨g, 1, none⟩ := by intro e; cases e
  exact World.cell?_setCell_same _ _ _ ((World.cell?_setCell_other _ _ _ _ hne).trans h.c1)

theorem Blk.lt {w : World} {g : Nat} {a b : Value} {t : TypeId} (h : Blk w g a b t) : g < w.heap.size := (Array.getElem?_eq_some_iff.1 h).1
theorem absN {S W : World} (_ : New S W) {p : Prop} (h : ∀ g, W.heap.size = g → S.heap.size ≤ W.heap.size → p) (hs : S.heap.size ≤ W.heap.size) : p := h _ rfl hs
/-- one more block, as a step of a region that draws its order: the world gets a name -/
theorem allocStep {K : Act → World → Prop} {a : Act} {S W : World} {x y : Value} {t : TypeId} (hn : New S W)
    (h : ∀ W2, New W W2 → New S W2 → Blk W2 W.heap.size x y t → K a W2) : K a (W.alloc (.cells #[x, y] t)) :=
  h _ ((Upd.refl _ _).alloc _) (hn.alloc _) Blk.mk
/-- a block of two cells written, likewise -/
theorem storeStep {K : Act → World → Prop} {a : Act} {S W : World} {g : Nat} {u v x y : Value} {t : TypeId} (hn : New S W) (hz : Blk W g u v t) (hf : S.heap.size ≤ g)
    (h : ∀ W2, New S W2 → Blk W2 g x y t → (∀ g' a b t', g' ≠ g → Blk W g' a b t' → Blk W2 g' a b t') → K a W2) : K a ((W.setCell ⟨g, 0, none⟩ x).setCell ⟨g, 1, none⟩ y) := by
  refine h _ ((hn.setCell (.inl hf) _).setCell (.inl hf) _) (Blk.put hz) ?_
  intro g' a b t' hne hb
  unfold Blk at hb ⊢
  rw [Below.heap_setCell _ _ _ _ hne, Below.heap_setCell _ _ _ _ hne]
  exact hb

/-- append to a row that is owned, as a step of a region that draws its order -/
theorem step_append {P : Program} {ops : Array Oper} {o : Oper} {a : Act} {Q : Exit → Act → World → Prop} {w : World} {K : Act → World → Prop} {E : Prop} (t e : TypeId) (size bytes : Nat) (z : Value)
    (hinfo : (P.info? e).map (fun i => (i.zero, i.size, i.bytes)) = some (some z, size, bytes)) (ht : P.underlying t = some (.slice e)) (hzs : z.cells.size = size) (hsz : 0 < size)
    (s x : Operand) (hwt : Region.wanted o (yielded ops a.tmps) = true) (ho : o.op = .call { callee := .builtin .append, args := #[s, x], argTypes := #[t, t] })
    (base : Nat) (v : Value) (n : Nat) (xs : List Value) (hs : a.eval s = v) (hown : w.ownsRow base e size v n xs)
    (ad : Addr) (m c : Nat) (news : List Value) (hx : a.eval x = .slice (some ad) m c) (hl : news.length = m * size) (hnews : ∀ j u, news[j]? = some u → w.cell? (ad.add j) = some u) (h1 : ∀ u ∈ news, u.oneCell' = true)
    (h63 : n + m ≤ maxLen) (hbytes : (n + m) * bytes ≤ 140737488355328) (hbase : base ≤ w.heap.size)
    (h : ∀ v' w', w'.ownsRow base e size v' (n + m) (xs ++ news) → Adds w w' v v' → K (a.put o.dst v') w') :
    if Region.wanted o (yielded ops a.tmps) = true then Oper.wp P o a w K Q else E := by
  obtain ⟨i, hi, h2, h3, h4⟩ := info_parts hinfo
  obtain ⟨v', w', hr, hw, ha⟩ := run_append_adds (P := P) w t o.type e i z size bytes ht hi h2 h3 h4 hzs hsz base v n xs hown ad m c news hl hnews h1 h63 hbytes hbase
  rw [if_pos hwt]
  unfold Oper.wp execOp
  simp only [ho, resolve, invoke, builtin, Sem.run_bind, Sem.run_pure, Result.andThen_ok, List.map_toArray, List.map_cons, List.map_nil, hs, hx, hr]
  exact h v' w' hw ha

/-- a whole struct loaded out of its box, as a take of a region -/
theorem load_box {P : Program} {o : Oper} {a : Act} {w : World} {ty : TypeId} {x : Operand} {g : Nat} {t : TypeId} {cs : Array Value} {d : TypeDesc} (ho : o.op = .load ty x)
    (hx : a.eval x = .pointer (some ⟨g, 0, none⟩)) (hg : w.heap[g]? = some (.cells cs t))
    (hu : P.underlying ty = some d) (hd : (match d with | .struct _ | .array _ _ => true | _ => false) = true) (hi : (P.info? ty).map (·.size) = some cs.size) :
    (execOp a.eval o).run P w = .ok (.value (.agg cs)) w := by
  unfold execOp
  simp only [ho, hx, Instr.loadAt, Instr.sureAddr, Sem.run_bind, Sem.run_pure, Result.andThen_ok, run_loadVar_row w g t ty cs (0, 0) d hg hu hd hi]

/-- a function's end: its one result lies in a cell, a struct -/
theorem ret_agg {P : Program} {fn : Func} {Q : Ending → World → Prop} {p : Tmp} {ty : TypeId} {a : Act} {w : World} {d : TypeDesc} (h : fn.results = #[.cell p ty])
    (hu : P.underlying ty = some d) (hd : (match d with | .struct _ | .array _ _ => true | _ => false) = true) (g : Nat) (cs : Array Value) (t : TypeId) (hi : (P.info? ty).map (·.size) = some cs.size)
    (hdef : a.defers = []) (hp : a.tmps.getD p undef = .pointer (some ⟨g, 0, none⟩)) (hg : w.heap[g]? = some (.cells cs t)) (hQ : Q (.returned (.agg cs)) w) : bodyPost P fn Q .ret a w :=
  bodyPost_ret (results_cell_row h a.tmps w g t cs (0, 0) d hp hg hu hd hi) hdef hQ
end Go.Proofs.Own

namespace Go.Proofs.Own
open Go Go.RowKit

/-- what a row of cells represents, in memory that lies in the blocks B -/
abbrev ERep (α : Type) := World → (Nat → Prop) → α → List Value → Prop
structure ERep.Ok {α : Type} (E : ERep α) : Prop where
  upd : ∀ {S : Nat → Prop} {w w' : World} {B : Nat → Prop} {x : α} {row : List Value}, E w B x row → Upd S w w' → (∀ k, B k → ¬ S k) → E w' B x row
  mono : ∀ {w : World} {B B' : Nat → Prop} {x : α} {row : List Value}, E w B x row → (∀ k, B k → B' k) → E w B' x row

/-- a slice of elements of n cells that can be read -/
def RdE {α : Type} (n : Nat) (E : ERep α) (w : World) (B : Nat → Prop) (v : Value) (xs : List α) : Prop :=
  ∃ a cap, v = .slice a xs.length cap ∧ xs.length ≤ cap ∧ (a = none → cap = 0) ∧ (∀ k, v.ownBlock = some k → B k) ∧ (xs ≠ [] → ∃ b o, a = some ⟨b, o, none⟩ ∧
    ∀ i (h : i < xs.length), ∃ row, row.length = n ∧ E w B xs[i] row ∧ ∀ j u, row[j]? = some u → w.cell? ⟨b, o + i * n + j, none⟩ = some u)
section
variable {α : Type} {n : Nat} {E : ERep α} {w w' : World} {B B' : Nat → Prop} {v : Value} {xs : List α}
theorem RdE.shape (h : RdE n E w B v xs) : ∃ a cap, v = .slice a xs.length cap := by
  obtain ⟨a, cap, h, -⟩ := h
  exact ⟨a, cap, h⟩
theorem RdE.own (h : RdE n E w B v xs) : ∀ k, v.ownBlock = some k → B k := by
  obtain ⟨a, cap, rfl, _, _, h, _⟩ := h
  exact h
theorem RdE.nil : RdE n E w B (.slice none 0 0) [] := ⟨none, 0, rfl, Nat.le_refl _, fun _ => rfl, (fun k h => by cases h), fun h => absurd rfl h⟩
theorem RdE.upd {S : Nat → Prop} (hE : E.Ok) (h : RdE n E w B v xs) (hu : Upd S w w') (hS : ∀ k, B k → ¬ S k) : RdE n E w' B v xs := by
  obtain ⟨a, cap, rfl, h1, h2, h3, h4⟩ := h
  refine ⟨a, cap, rfl, h1, h2, h3, fun hx => ?_⟩
  obtain ⟨b, o, rfl, hc⟩ := h4 hx
  refine ⟨b, o, rfl, fun i hi => ?_⟩
  obtain ⟨row, hl, he, hr⟩ := hc i hi
  exact ⟨row, hl, hE.upd he hu hS, fun j u hj => hu.cell (hr j u hj) (hS b (h3 b rfl))⟩
theorem RdE.new (hE : E.Ok) (h : RdE n E w B v xs) (hu : New w w') : RdE n E w' B v xs := h.upd hE hu (fun _ _ h => h)
theorem RdE.mono (hE : E.Ok) (h : RdE n E w B v xs) (hB : ∀ k, B k → B' k) : RdE n E w B' v xs := by
  obtain ⟨a, cap, rfl, h1, h2, h3, h4⟩ := h
  refine ⟨a, cap, rfl, h1, h2, fun k hk => hB k (h3 k hk), fun hx => ?_⟩
  obtain ⟨b, o, rfl, hc⟩ := h4 hx
  refine ⟨b, o, rfl, fun i hi => ?_⟩
  obtain ⟨row, hl, he, hr⟩ := hc i hi
  exact ⟨row, hl, hE.mono he hB, hr⟩
/-- its element at an index -/
theorem RdE.at (h : RdE n E w B v xs) : ∃ a cap, v = .slice a xs.length cap ∧ ∀ i (hi : i < xs.length), ∃ b o row, a = some ⟨b, o, none⟩ ∧ row.length = n ∧ E w B xs[i] row ∧ ∀ j u, row[j]? = some u → w.cell? ⟨b, o + i * n + j, none⟩ = some u := by
  obtain ⟨a, cap, rfl, h1, h2, h3, h4⟩ := h
  refine ⟨a, cap, rfl, fun i hi => ?_⟩
  obtain ⟨b, o, rfl, hc⟩ := h4 (by intro e; subst e; simp at hi)
  obtain ⟨row, hl, he, hr⟩ := hc i hi
  exact ⟨b, o, row, rfl, hl, he, hr⟩
end
/-- an element that holds no memory -/
def Pure {α : Type} (f : α → List Value) : ERep α := fun _ _ x row => row = f x
theorem Pure.ok {α : Type} (f : α → List Value) : (Pure f).Ok := ⟨fun h _ _ => h, fun h _ => h⟩

/-- what one cell represents, in memory that lies in the blocks B -/
abbrev FRep (β : Type) := World → (Nat → Prop) → Value → β → Prop
structure FRep.Ok {β : Type} (F : FRep β) : Prop where
  upd : ∀ {S : Nat → Prop} {w w' : World} {B : Nat → Prop} {u : Value} {y : β}, F w B u y → Upd S w w' → (∀ k, B k → ¬ S k) → F w' B u y
  mono : ∀ {w : World} {B B' : Nat → Prop} {u : Value} {y : β}, F w B u y → (∀ k, B k → B' k) → F w B' u y
theorem FRep.Ok.new {β : Type} {F : FRep β} (h : F.Ok) {w w' : World} {B : Nat → Prop} {u : Value} {y : β} (hf : F w B u y) (hn : New w w') : F w' B u y := h.upd hf hn (fun _ _ h => h)
/-- an element of one cell -/
def E1 {β : Type} (F : FRep β) : ERep β := fun w B x row => ∃ u, row = [u] ∧ F w B u x
theorem E1.ok {β : Type} {F : FRep β} (h : F.Ok) : (E1 F).Ok :=
  ⟨fun ⟨u, e, hf⟩ hu hS => ⟨u, e, h.upd hf hu hS⟩, fun ⟨u, e, hf⟩ hB => ⟨u, e, h.mono hf hB⟩⟩
theorem e1_at {β : Type} {F : FRep β} {w : World} {B : Nat → Prop} {v : Value} {xs : List β} (h : RdE 1 (E1 F) w B v xs) : ∃ a cap, v = .slice a xs.length cap ∧ ∀ i (hi : i < xs.length), ∃ b o u, a = some ⟨b, o, none⟩ ∧ w.cell? ⟨b, o + i, none⟩ = some u ∧ F w B u xs[i] := by
  obtain ⟨a, cap, rfl, hat⟩ := h.at
  refine ⟨a, cap, rfl, fun i hi => ?_⟩
  obtain ⟨b, o, row, rfl, hl, ⟨u, rfl, hf⟩, hc⟩ := hat i hi
  exact ⟨b, o, u, rfl, by simpa using hc 0 _ rfl, hf⟩
/-- where the elements' memory of a slice that is owned lies: anywhere of C but in its own block -/
def Off (C : Nat → Prop) (w : World) (v : Value) : Nat → Prop := fun k => (k < w.heap.size ∧ v.ownBlock ≠ some k) ∧ C k
def OwE {α : Type} (T : TypeId) (n : Nat) (E : ERep α) (C : Nat → Prop) (w : World) (v : Value) (xs : List α) : Prop :=
  ∃ rows : List (List Value), rows.length = xs.length ∧ (∀ r ∈ rows, r.length = n) ∧ (∀ i (h : i < xs.length) (h' : i < rows.length), E w (Off C w v) xs[i] rows[i]) ∧ w.ownsRow 0 T n v xs.length rows.flatten
theorem flatten_at {n : Nat} : ∀ (rows : List (List Value)), (∀ r ∈ rows, r.length = n) → ∀ i (h : i < rows.length) j u, rows[i][j]? = some u → rows.flatten[i * n + j]? = some u
  | [], _, i, h, _, _, _ => absurd h (Nat.not_lt_zero _)
  | r :: rs, hn, 0, _, j, u, hu => by
    simp only [List.getElem_cons_zero] at hu
    rw [List.flatten_cons, Nat.zero_mul, Nat.zero_add, List.getElem?_append_left (List.getElem?_eq_some_iff.1 hu).1]
    exact hu
  | r :: rs, hn, i + 1, h, j, u, hu => by
    have hr := hn r (by simp)
    rw [List.flatten_cons, List.getElem?_append_right (by rw [hr, Nat.succ_mul]; omega), hr]
    have e : (i + 1) * n + j - n = i * n + j := by rw [Nat.succ_mul]; omega
    rw [e]
    exact flatten_at rs (fun r hr => hn r (by simp [hr])) i (by simpa using h) j u (by simpa using hu)
section
variable {α : Type} {T : TypeId} {n : Nat} {E : ERep α} {C : Nat → Prop} {w w' : World} {v v' : Value} {xs : List α}
theorem OwE.nil : OwE T n E C w (.slice none 0 0) [] := ⟨[], rfl, (fun r h => by cases h), (fun i h => absurd h (Nat.not_lt_zero _)), World.ownsRow_nil w 0 T n⟩
theorem OwE.lt (h : OwE T n E C w v xs) : ∀ k, v.ownBlock = some k → k < w.heap.size := by
  obtain ⟨_, _, _, _, h⟩ := h
  exact fun k hk => (World.ownsRow.lt h k hk).2
theorem OwE.shape (h : OwE T n E C w v xs) : ∃ a cap, v = .slice a xs.length cap := by
  obtain ⟨_, _, _, _, _, h⟩ := h
  rcases h with ⟨rfl, h⟩ | ⟨g, cap, _, rfl, _⟩
  · exact ⟨none, 0, by rw [h]⟩
  · exact ⟨_, _, rfl⟩
theorem OwE.upd {S : Nat → Prop} (hE : E.Ok) (h : OwE T n E C w v xs) (hu : Upd S w w') (hS : ∀ k, k < w.heap.size → C k → ¬ S k) (hv : ∀ k, v.ownBlock = some k → ¬ S k) : OwE T n E C w' v xs := by
  obtain ⟨rows, h1, h2, h3, h4⟩ := h
  refine ⟨rows, h1, h2, fun i hi hi' => ?_, ownsRow_upd h4 hu hv⟩
  exact hE.mono (hE.upd (h3 i hi hi') hu (fun k hk => hS k hk.1.1 hk.2)) (fun k hk => ⟨⟨Nat.lt_of_lt_of_le hk.1.1 hu.size, hk.1.2⟩, hk.2⟩)
theorem OwE.new (hE : E.Ok) (h : OwE T n E C w v xs) (hu : New w w') : OwE T n E C w' v xs := h.upd hE hu (fun _ _ _ h => h) (fun _ _ h => h)
theorem OwE.rd (hE : E.Ok) (h : OwE T n E C w v xs) : RdE n E w (fun k => k < w.heap.size ∧ (C k ∨ v.ownBlock = some k)) v xs := by
  obtain ⟨rows, h1, h2, h3, h4⟩ := h
  have hlt := fun k hk => (World.ownsRow.lt h4 k hk).2
  obtain ⟨h5, h6⟩ := h4
  rcases h6 with ⟨rfl, h7⟩ | ⟨g, cap, cur, rfl, hb, hg, hnc, hcm, hcs, htk⟩
  · have : xs = [] := List.eq_nil_of_length_eq_zero h7
    subst this
    exact RdE.nil
  · refine ⟨_, cap, rfl, hnc, (fun h => by cases h), (fun k hk => ⟨hlt k hk, .inr hk⟩), fun hx => ⟨g, 0, rfl, fun i hi => ?_⟩⟩
    have hi' : i < rows.length := by omega
    refine ⟨rows[i], h2 _ (List.getElem_mem _), hE.mono (h3 i hi hi') (fun k hk => ⟨hk.1.1, .inl hk.2⟩), fun j u hj => ?_⟩
    have hown : w.ownsRow 0 T n (.slice (some ⟨g, 0, none⟩) xs.length cap) xs.length rows.flatten := ⟨h5, .inr ⟨g, cap, cur, rfl, hb, hg, hnc, hcm, hcs, htk⟩⟩
    have := hown.cells (g := g) rfl (i * n + j) u (flatten_at rows h2 i hi' j u hj)
    rw [Addr.add_lit] at this
    rw [Nat.add_assoc]
    exact this
/-- one element more -/
theorem OwE.push (hE : E.Ok) {x : α} {row : List Value} (h1 : OwE T n E C w v xs) (hx : E w (Off C w v) x row) (hl : row.length = n)
    (hrow : ∀ rows : List (List Value), w.ownsRow 0 T n v xs.length rows.flatten → w'.ownsRow 0 T n v' (xs.length + 1) (rows.flatten ++ row)) (ha : Adds w w' v v') : OwE T n E C w' v' (xs ++ [x]) := by
  obtain ⟨rows, r1, r2, r3, r4⟩ := h1
  have hoff : ∀ k, Off C w v k → Off C w' v' k := by
    intro k hk
    refine ⟨⟨Nat.lt_of_lt_of_le hk.1.1 ha.upd.size, ?_⟩, hk.2⟩
    rcases ha.at' with e | ⟨j, e, hj⟩
    · rw [e]; exact hk.1.2
    · rw [e]
      intro he
      cases he
      have := hk.1.1
      omega
  have hstep : ∀ (y : α) (r : List Value), E w (Off C w v) y r → E w' (Off C w' v') y r := fun y r hy => hE.mono (hE.upd hy ha.upd (fun k hk => hk.1.2)) hoff
  refine ⟨rows ++ [row], by simp [r1], ?_, ?_, ?_⟩
  · intro r hr
    simp at hr
    rcases hr with hr | rfl
    · exact r2 r hr
    · exact hl
  · intro i hi hi'
    by_cases h : i < xs.length
    · rw [List.getElem_append_left h, List.getElem_append_left (by omega)]
      exact hstep _ _ (r3 i h (by omega))
    · have e : i = xs.length := by simp at hi; omega
      subst e
      simp only [List.getElem_append_right (Nat.le_refl _), Nat.sub_self, List.getElem_cons_zero]
      simp only [← r1, List.getElem_append_right (Nat.le_refl _), Nat.sub_self, List.getElem_cons_zero]
      exact hstep _ _ hx
  · have := hrow rows r4
    simpa using this
theorem ownsRow_told {w w' : World} {T : TypeId} {n m : Nat} {v v' : Value} {l1 l2 row : List Value} (h2 : w.ownsRow 0 T n v m l2) (h1 : w.ownsRow 0 T n v m l1) (h : w'.ownsRow 0 T n v' (m + 1) (l1 ++ row)) : w'.ownsRow 0 T n v' (m + 1) (l2 ++ row) := by
  have : l2 = l1 := by
    obtain ⟨p1, p2⟩ := h2
    obtain ⟨q1, q2⟩ := h1
    rcases p2 with ⟨rfl, hn⟩ | ⟨g, cap, cur, rfl, _, hg, _, _, _, ht⟩
    · rw [hn] at p1 q1
      rw [Nat.zero_mul] at p1 q1
      rw [List.eq_nil_of_length_eq_zero p1, List.eq_nil_of_length_eq_zero q1]
    · rcases q2 with ⟨e, _⟩ | ⟨g', cap', cur', e, _, hg', _, _, _, ht'⟩
      · cases e
      · cases e
        rw [hg] at hg'
        cases hg'
        rw [← ht, ← ht']
  rw [this]
  exact h
end
section
variable {P : Program} {α : Type}
theorem new_row {w : World} {e : TypeId} {row : List Value} : ∀ j u, row[j]? = some u → (w.alloc (.cells row.toArray e)).cell? ((⟨w.heap.size, 0, none⟩ : Addr).add j) = some u := by
  intro j u hj
  rw [Addr.add_lit, cell_of_row _ w.heap.size (0 + j) _ e (0, 0) (hp_new rfl), Nat.zero_add]
  simpa using hj
/-- append of one element, laid in a block of its own ahead of it: the walk's law at a goal that is held -/
theorem held_appendE {ops : Array Oper} {rest : List Oper} {o : Oper} {a : Act} {Q : Exit → Act → World → Prop} {w : World} {E : ERep α} {C : Nat → Prop} (hE : E.Ok) (t e : TypeId) (size bytes : Nat) (z : Value)
    (hinfo : (P.info? e).map (fun i => (i.zero, i.size, i.bytes)) = some (some z, size, bytes)) (ht : P.underlying t = some (.slice e)) (hzs : z.cells.size = size) (hsz : 0 < size)
    (s x : Operand) (hgd : o.guard = none) (ho : o.op = .call { callee := .builtin .append, args := #[s, x], argTypes := #[t, t] })
    (v : Value) (xs : List α) (hs : a.eval s = v) (hown : OwE e size E C w v xs) (y : α) (row : List Value) (hy : E w (Off C w v) y row)
    (hx : a.eval x = .slice (some ⟨w.heap.size, 0, none⟩) 1 1) (hl : row.length = size) (h1 : ∀ u ∈ row, u.oneCell' = true)
    (h63 : xs.length + 1 ≤ maxLen) (hbytes : (xs.length + 1) * bytes ≤ 140737488355328)
    (h : ∀ v' w', OwE e size E C w' v' (xs ++ [y]) → Adds w w' v v' → wpList P ops Q rest (a.put o.dst v') w') : Hold (wpList P ops Q (o :: rest) a (w.alloc (.cells row.toArray e))) := by
  obtain ⟨rows, r1, r2, r3, r4⟩ := hown
  refine held_append t e size bytes z hinfo ht hzs hsz s x hgd ho 0 v xs.length rows.flatten hs (r4.alloc _) ⟨w.heap.size, 0, none⟩ 1 1 row hx (by omega) new_row h1 h63 hbytes (Nat.zero_le _) ?_
  intro v' w' ho' ha
  have ha' := Adds.ahead ((Upd.refl _ _).alloc _) ha
  exact h v' w' (OwE.push hE ⟨rows, r1, r2, r3, r4⟩ hy hl (fun rows2 h2 => ownsRow_told h2 r4 ho') ha') ha'
/-- the same as a step of a region that draws its order; other steps may lie between the element's block and it -/
theorem step_appendE {ops : Array Oper} {o : Oper} {a : Act} {Q : Exit → Act → World → Prop} {w w0 : World} {K : Act → World → Prop} {E' : Prop} {E : ERep α} {C : Nat → Prop} (hE : E.Ok) (t e : TypeId) (size bytes : Nat) (z : Value)
    (hinfo : (P.info? e).map (fun i => (i.zero, i.size, i.bytes)) = some (some z, size, bytes)) (ht : P.underlying t = some (.slice e)) (hzs : z.cells.size = size) (hsz : 0 < size)
    (s x : Operand) (hwt : Region.wanted o (yielded ops a.tmps) = true) (ho : o.op = .call { callee := .builtin .append, args := #[s, x], argTypes := #[t, t] })
    (v : Value) (xs : List α) (hs : a.eval s = v) (hown : OwE e size E C w v xs) (y : α) (row : List Value) (hy : E w (Off C w v) y row) (hn0 : New (w0.alloc (.cells row.toArray e)) w)
    (hx : a.eval x = .slice (some ⟨w0.heap.size, 0, none⟩) 1 1) (hl : row.length = size) (h1 : ∀ u ∈ row, u.oneCell' = true)
    (h63 : xs.length + 1 ≤ maxLen) (hbytes : (xs.length + 1) * bytes ≤ 140737488355328)
    (h : ∀ v' w', OwE e size E C w' v' (xs ++ [y]) → Adds w w' v v' → K (a.put o.dst v') w') :
    if Region.wanted o (yielded ops a.tmps) = true then Oper.wp P o a w K Q else E' := by
  obtain ⟨rows, r1, r2, r3, r4⟩ := hown
  refine step_append t e size bytes z hinfo ht hzs hsz s x hwt ho 0 v xs.length rows.flatten hs r4 ⟨w0.heap.size, 0, none⟩ 1 1 row hx (by omega) (fun j u hj => hn0.cell (new_row j u hj) (fun h => h)) h1 h63 hbytes (Nat.zero_le _) ?_
  intro v' w' ho' ha
  exact h v' w' (OwE.push hE ⟨rows, r1, r2, r3, r4⟩ hy hl (fun rows2 h2 => ownsRow_told h2 r4 ho') ha) ha
end
end Go.Proofs.Own

namespace Go.Proofs.YtbllpajibhiobaaDoor
open Go.RowKit Go.Proofs.Own
set_option maxRecDepth 100000
set_option maxHeartbeats 2000000

def refV (v : Int) : Bool := decide (v = 112 ∨ v = 111)
def valV (v : Int) : Bool := decide ((123 ≤ v ∧ v ≤ 127) ∨ v = 112 ∨ v = 111)
def IsPost (b : Bool) (w : World) (e : Ending) (w' : World) : Prop := e = .returned (.bool b) ∧ w = w'
theorem refV_t {v : Int} (h : v = 112 ∨ v = 111) : refV v = true := decide_eq_true h
theorem refV_f {v : Int} (h : ¬ (v = 112 ∨ v = 111)) : refV v = false := decide_eq_false h

theorem vref_any (v : Int) (w : World) : Calls Tryd.prog 34 #[.int .u8 v] w (IsPost (refV v) w) := by
  by_cases h1 : v = 112
  · rw [refV_t (.inl h1)]
    subst h1
    go_enter Tryd.func34, Tryd.ntmps34
    go_wp2_with fail
    go_ret
    exact ⟨rfl, rfl⟩
  · by_cases h2 : v = 111
    · rw [refV_t (.inr h2)]
      subst h2
      go_enter Tryd.func34, Tryd.ntmps34
      go_wp2_with fail
      go_ret
      exact ⟨rfl, rfl⟩
    · rw [refV_f (by omega)]
      have e1 : (v == 112) = false := by simpa using h1
      have e2 : (v == 111) = false := by simpa using h2
      go_enter Tryd.func34, Tryd.ntmps34
      go_wp2_with fail
      go_ret
      exact ⟨rfl, rfl⟩
theorem valV_ref {v : Int} (h : refV v = true) : valV v = true := decide_eq_true (.inr (of_decide_eq_true h))
theorem valV_in {v : Int} (h1 : 123 ≤ v) (h2 : v ≤ 127) : valV v = true := decide_eq_true (.inl ⟨h1, h2⟩)
theorem valV_out {v : Int} (h : refV v = false) (h1 : ¬ (123 ≤ v ∧ v ≤ 127)) : valV v = false := by
  have := of_decide_eq_false h
  exact decide_eq_false (fun k => k.elim h1 this)
theorem vright_any (v : Int) (w : World) : Calls Tryd.prog 68 #[.int .u8 v] w (IsPost (valV v) w) := by
  have HR := hid (fun w => vref_any v w)
  cases hr : refV v with
  | true =>
    rw [valV_ref hr]
    rw [hr] at HR
    go_enter Tryd.func68, Tryd.ntmps68
    go_wp2_with (go_at_call 34; refine (HR.out _).mono ?_; rintro e w' ⟨rfl, rfl⟩)
    go_ret
    exact ⟨rfl, rfl⟩
  | false =>
    rw [hr] at HR
    by_cases h1 : 123 ≤ v
    · by_cases h2 : v ≤ 127
      · rw [valV_in h1 h2]
        go_enter Tryd.func68, Tryd.ntmps68
        go_wp2_with (go_at_call 34; refine (HR.out _).mono ?_; rintro e w' ⟨rfl, rfl⟩)
        go_ret
        exact ⟨rfl, rfl⟩
      · have h3 : decide (v ≤ 127) = false := decide_eq_false h2
        rw [valV_out hr (by omega)]
        go_enter Tryd.func68, Tryd.ntmps68
        go_wp2_with (go_at_call 34; refine (HR.out _).mono ?_; rintro e w' ⟨rfl, rfl⟩)
        go_ret
        exact ⟨rfl, rfl⟩
    · have h3 : decide (123 ≤ v) = false := decide_eq_false h1
      rw [valV_out hr (by omega)]
      go_enter Tryd.func68, Tryd.ntmps68
      go_wp2_with (go_at_call 34; refine (HR.out _).mono ?_; rintro e w' ⟨rfl, rfl⟩)
      go_ret
      exact ⟨rfl, rfl⟩
end Go.Proofs.YtbllpajibhiobaaDoor

namespace Go.Proofs.YtbllpajibhiobaaDoor
open Go.RowKit Go.Proofs.Own

/-- a law's end: it answers true, and nothing is written that was there -/
def True' (w : World) (e : Ending) (w' : World) : Prop := e = .returned (.bool true) ∧ New w w'

/-- what a slice of numbers that came in holds -/
def IsRow (k : IntKind) (w : World) (a : Option Addr) (len cap : Nat) (zs : List Int) : Prop :=
  (a = none ∧ len = 0 ∧ cap = 0 ∧ zs = []) ∨
  ∃ x, a = some x ∧ len ≤ cap ∧ cap ≤ maxLen ∧ zs.length = cap ∧ (∀ i, i < zs.length → w.cell? (x.add i) = some (.int k (zs.getD i 0))) ∧ ∀ n ∈ zs, (Lit.int k n).wf = true

theorem wf_u8 {n : Int} (h : (Lit.int .u8 n).wf = true) : 0 ≤ n ∧ n < 256 := by
  have e1 : IntKind.u8.min = 0 := by decide
  have e2 : IntKind.u8.max = 255 := by decide
  simp only [Lit.wf, e1, e2, Bool.and_eq_true, decide_eq_true_eq] at h
  omega
theorem wf_u16 {n : Int} (h : (Lit.int .u16 n).wf = true) : 0 ≤ n ∧ n < 65536 := by
  have e1 : IntKind.u16.min = 0 := by decide
  have e2 : IntKind.u16.max = 65535 := by decide
  simp only [Lit.wf, e1, e2, Bool.and_eq_true, decide_eq_true_eq] at h
  omega
theorem wf_u32 {n : Int} (h : (Lit.int .u32 n).wf = true) : 0 ≤ n ∧ n < 4294967296 := by
  have e1 : IntKind.u32.min = 0 := by decide
  have e2 : IntKind.u32.max = 4294967295 := by decide
  simp only [Lit.wf, e1, e2, Bool.and_eq_true, decide_eq_true_eq] at h
  omega
theorem wf_u64 {n : Int} (h : (Lit.int .u64 n).wf = true) : 0 ≤ n ∧ n < 18446744073709551616 := by
  have e1 : IntKind.u64.min = 0 := by decide
  have e2 : IntKind.u64.max = 18446744073709551615 := by decide
  simp only [Lit.wf, e1, e2, Bool.and_eq_true, decide_eq_true_eq] at h
  omega
theorem wf_i64 {n : Int} (h : (Lit.int .i64 n).wf = true) : -9223372036854775808 ≤ n ∧ n ≤ 9223372036854775807 := by
  have e1 : IntKind.i64.min = -9223372036854775808 := by decide
  have e2 : IntKind.i64.max = 9223372036854775807 := by decide
  simp only [Lit.wf, e1, e2, Bool.and_eq_true, decide_eq_true_eq] at h
  omega

theorem rdOfRow {w : World} {a : Option Addr} {len cap : Nat} {zs : List Int} (h : IsRow .u8 w a len cap zs) :
    ∃ bs : List UInt8, Rd w (.slice a len cap) bs ∧ bs.length ≤ 9223372036854775807 := by
  rcases h with ⟨rfl, rfl, rfl, rfl⟩ | ⟨x, rfl, hl, hm, hz, hcell, hwz⟩
  · exact ⟨[], Rd.nil w, by simp⟩
  · have hlen : ((zs.take len).map fun z => UInt8.ofNat z.toNat).length = len := by simp; omega
    refine ⟨(zs.take len).map fun z => UInt8.ofNat z.toNat, ⟨some x, cap, by rw [hlen], by rw [hlen]; exact hl, (fun h => by cases h), fun hne => ?_⟩, ?_⟩
    · have h0 : 0 < len := by
        rw [← hlen]
        exact List.length_pos_iff.mpr hne
      obtain ⟨b, o, s⟩ := x
      have hc := hcell 0 (by omega)
      have hs : s = none := by simpa [Addr.add] using World.cell?_spot hc
      subst hs
      refine ⟨b, o, rfl, fun i hi => ?_⟩
      rw [hlen] at hi
      have hi' : i < zs.length := by omega
      have := hcell i hi'
      have hw := wf_u8 (hwz zs[i] (List.getElem_mem _))
      have e : zs.getD i 0 = zs[i] := by simp [List.getD_eq_getElem?_getD, hi']
      rw [e] at this
      rw [Addr.add_lit] at this
      rw [this]
      simp only [List.getElem_map, List.getElem_take, cb]
      congr 2
      rw [UInt8.toNat_ofNat']
      omega
    · rw [hlen]
      have : maxLen = 9223372036854775807 := by decide
      omega
end Go.Proofs.YtbllpajibhiobaaDoor

namespace Go.Proofs.YtbllpajibhiobaaDoor
open Go.RowKit Go.Proofs.Own
set_option maxRecDepth 100000
set_option maxHeartbeats 2000000

/-- a slice of numbers that can be read -/
def RdM (k : IntKind) (w : World) (v : Value) (ns : List Nat) : Prop :=
  ∃ a cap, v = .slice a ns.length cap ∧ ns.length ≤ cap ∧ (a = none → cap = 0) ∧ (ns ≠ [] → ∃ b o, a = some ⟨b, o, none⟩ ∧ ∀ i (h : i < ns.length), w.cell? ⟨b, o + i, none⟩ = some (.int k (ns[i] : Nat)))
theorem RdM.shape {k : IntKind} {w : World} {v : Value} {ns : List Nat} (h : RdM k w v ns) : ∃ a cap, v = .slice a ns.length cap := by
  obtain ⟨a, cap, h, -⟩ := h
  exact ⟨a, cap, h⟩
theorem RdM.nil (k : IntKind) (w : World) : RdM k w (.slice none 0 0) [] := ⟨none, 0, rfl, Nat.le_refl _, fun _ => rfl, fun h => absurd rfl h⟩
theorem RdM.upd {S : Nat → Prop} {k : IntKind} {w w' : World} {v : Value} {ns : List Nat} (h : RdM k w v ns) (hu : Upd S w w') (hn : ∀ k, v.ownBlock = some k → ¬ S k) : RdM k w' v ns := by
  obtain ⟨a, cap, rfl, h1, h2, h3⟩ := h
  refine ⟨a, cap, rfl, h1, h2, fun hb => ?_⟩
  obtain ⟨b, o, rfl, hc⟩ := h3 hb
  exact ⟨b, o, rfl, fun i hi => hu.cell (hc i hi) (hn b rfl)⟩
theorem RdM.new {k : IntKind} {w w' : World} {v : Value} {ns : List Nat} (h : RdM k w v ns) (hu : New w w') : RdM k w' v ns := h.upd hu (fun _ _ h => h)
/-- a literal, behind what made it -/
theorem RdM.lit (k : IntKind) (w : World) (ns : List Nat) (e : TypeId) (c : Nat) (hc : ns.length ≤ c) (cs : List Value) (hcs : cs.take ns.length = ns.map (fun n => .int k (n : Nat))) (_hl : ns.length ≤ cs.length) :
    RdM k (w.alloc (.cells cs.toArray e)) (.slice (some ⟨w.heap.size, 0, none⟩) ns.length c) ns := by
  refine ⟨_, c, rfl, hc, (fun h => by cases h), fun _ => ⟨w.heap.size, 0, rfl, fun i hi => ?_⟩⟩
  have h1 : cs[i]? = some (.int k (ns[i] : Nat)) := by
    have := congrArg (·[i]?) hcs
    simp only [List.getElem?_map, List.getElem?_eq_getElem hi, Option.map_some] at this
    rwa [List.getElem?_take_of_lt hi] at this
  have h2 : (w.alloc (.cells cs.toArray e)).heap[w.heap.size]? = some (.cells cs.toArray e) := heap_alloc_new w _
  rw [cell_of_row _ w.heap.size (0 + i) _ e (0, 0) h2, Nat.zero_add]
  simpa using h1
theorem rdmOfRow {k : IntKind} {w : World} {a : Option Addr} {len cap : Nat} {zs : List Int} (hk : ∀ n, (Lit.int k n).wf = true → 0 ≤ n ∧ n < 4294967296) (h : IsRow k w a len cap zs) :
    ∃ ns : List Nat, RdM k w (.slice a len cap) ns ∧ ns.length = len ∧ len ≤ 9223372036854775807 ∧ ∀ n ∈ ns, n < 4294967296 := by
  rcases h with ⟨rfl, rfl, rfl, rfl⟩ | ⟨x, rfl, hl, hm, hz, hcell, hwz⟩
  · exact ⟨[], RdM.nil k w, rfl, by decide, by simp⟩
  · have hlen : ((zs.take len).map Int.toNat).length = len := by simp; omega
    refine ⟨(zs.take len).map Int.toNat, ⟨some x, cap, by rw [hlen], by rw [hlen]; exact hl, (fun h => by cases h), fun hne => ?_⟩, hlen, ?_, ?_⟩
    · have h0 : 0 < len := by
        rw [← hlen]
        exact List.length_pos_iff.mpr hne
      obtain ⟨b, o, s⟩ := x
      have hc := hcell 0 (by omega)
      have hs : s = none := by simpa [Addr.add] using World.cell?_spot hc
      subst hs
      refine ⟨b, o, rfl, fun i hi => ?_⟩
      rw [hlen] at hi
      have hi' : i < zs.length := by omega
      have := hcell i hi'
      have hw := hk _ (hwz zs[i] (List.getElem_mem _))
      have e : zs.getD i 0 = zs[i] := by simp [List.getD_eq_getElem?_getD, hi']
      rw [e] at this
      rw [Addr.add_lit] at this
      rw [this]
      simp only [List.getElem_map, List.getElem_take]
      congr 2
      omega
    · have : maxLen = 9223372036854775807 := by decide
      omega
    · intro n hn
      simp only [List.mem_map] at hn
      obtain ⟨z, hz, rfl⟩ := hn
      have := hk _ (hwz z (List.mem_of_mem_take hz))
      omega

theorem take_eq_step {α : Type} {xs ys : List α} {i : Nat} {x : α} (h : xs.take i = ys.take i) (hx : xs[i]? = some x) (hy : ys[i]? = some x) : xs.take (i + 1) = ys.take (i + 1) := by
  rw [List.take_add_one, List.take_add_one, h, hx, hy]
theorem get_ne {α : Type} {xs ys : List α} {i : Nat} {x y : α} (hx : xs[i]? = some x) (hy : ys[i]? = some y) (h : x ≠ y) : xs ≠ ys := by
  intro e
  subst e
  rw [hx] at hy
  exact h (Option.some.inj hy)

def IsNew (b : Bool) (w : World) (e : Ending) (w' : World) : Prop := e = .returned (.bool b) ∧ New w w'

theorem new_drewN (w : World) (n : Nat) : New w (w.drewN n) := by
  induction n with
  | zero => exact Upd.refl _ _
  | succ n ih => exact ih.drew

theorem eqN_any (x y : Value) (xs ys : List Nat) (w : World) (hx : RdM .u32 w x xs) (hy : RdM .u32 w y ys) (h1 : xs.length ≤ 9223372036854775807) (h2 : ys.length ≤ 9223372036854775807) :
    Calls Tryd.prog 40 #[x, y] w (IsNew (decide (xs = ys)) w) := by
  obtain ⟨a, c, rfl, hc, hn, hcell⟩ := hx
  obtain ⟨a2, c2, rfl, hc2, hn2, hcell2⟩ := hy
  by_cases hl : xs.length = ys.length
  · have hb : (((xs.length : Nat) : Int) != ((ys.length : Nat) : Int)) = false := by simp [hl]
    go_enter Tryd.func40, Tryd.ntmps40
    go_wp2_with fail
    go_loopw [13] (fun c wr => ∃ i : Nat, c = .int .i64 i ∧ i ≤ xs.length ∧ xs.take i = ys.take i ∧ New w wr) (fun c _ => xs.length - (intOf c).toNat)
    case atStart => exact ⟨0, rfl, by omega, by simp, Upd.refl _ _⟩
    case round =>
      obtain ⟨i, rfl, hi1, hi2, hnw⟩ := hrel
      by_cases hi : i < xs.length
      · have hi' : i < ys.length := by omega
        obtain ⟨b, o, rfl, hce⟩ := hcell (by intro h; subst h; simp at hi)
        obtain ⟨b2, o2, rfl, hce2⟩ := hcell2 (by intro h; subst h; simp at hi')
        have hc1 := hnw.cell (hce i hi) (fun h => h)
        have hc2' := hnw.cell (hce2 i hi') (fun h => h)
        have hg1 : xs[i]? = some xs[i] := List.getElem?_eq_getElem hi
        have hg2 : ys[i]? = some ys[i] := List.getElem?_eq_getElem hi'
        generalize hxe : xs[i] = p at *
        generalize hye : ys[i] = q at *
        have HG1 := hid hg1
        have HG2 := hid hg2
        have HI := hid hi2
        have HW := hid hnw
        clear hg1 hg2 hi2 hxe hye hce hce2 hcell hcell2 hnw
        skip
        by_cases hpq : p = q
        · subst hpq
          have hb2 : (((p : Nat) : Int) != ((p : Nat) : Int)) = false := by simp
          go_wp2_with fail
          go_quiet (fail)
          go_wp2_with fail
          go_roundw
          case rel => exact ⟨i + 1, by go_num, by omega, take_eq_step HI.out HG1.out HG2.out, New.trans HW.out (new_drewN _ _)⟩
          case measure => simp [intOf]; omega
        · have hb2 : (((p : Nat) : Int) != ((q : Nat) : Int)) = true := by simp; omega
          have HP := hid hpq
          go_wp2_with fail
          go_quiet (fail)
          go_wp2_with fail
          go_ret
          exact ⟨by rw [show decide (xs = ys) = false from decide_eq_false (get_ne HG1.out HG2.out HP.out)]; rfl, New.trans HW.out (new_drewN _ _)⟩
      · have e : i = xs.length := by omega
        subst e
        have HI : Hid (xs = ys) := by
          show xs = ys
          rw [hl] at hi2
          rw [← hl, List.take_length, hl, List.take_length] at hi2
          exact hi2
        clear hi2 hcell hcell2
        have HW := hid hnw
        clear hnw
        go_wp2_with fail
        go_ret
        exact ⟨by rw [show decide (xs = ys) = true from decide_eq_true HI.out]; rfl, HW.out⟩
  · have hb : (((xs.length : Nat) : Int) != ((ys.length : Nat) : Int)) = true := by simp; omega
    have HL := hid hl
    clear hl
    go_enter Tryd.func40, Tryd.ntmps40
    go_wp2_with fail
    go_ret
    exact ⟨by rw [show decide (xs = ys) = false from decide_eq_false (fun h => HL.out (congrArg List.length h))]; rfl, Upd.refl _ _⟩

theorem eqV_any (x y : Value) (xs ys : List UInt8) (w : World) (hx : Rd w x xs) (hy : Rd w y ys) (h1 : xs.length ≤ 9223372036854775807) (h2 : ys.length ≤ 9223372036854775807) :
    Calls Tryd.prog 41 #[x, y] w (IsNew (decide (xs = ys)) w) := by
  obtain ⟨a, c, rfl, hc, hn, hcell⟩ := hx
  obtain ⟨a2, c2, rfl, hc2, hn2, hcell2⟩ := hy
  by_cases hl : xs.length = ys.length
  · have hb : (((xs.length : Nat) : Int) != ((ys.length : Nat) : Int)) = false := by simp [hl]
    go_enter Tryd.func41, Tryd.ntmps41
    go_wp2_with fail
    go_loopw [13] (fun c wr => ∃ i : Nat, c = .int .i64 i ∧ i ≤ xs.length ∧ xs.take i = ys.take i ∧ New w wr) (fun c _ => xs.length - (intOf c).toNat)
    case atStart => exact ⟨0, rfl, by omega, by simp, Upd.refl _ _⟩
    case round =>
      obtain ⟨i, rfl, hi1, hi2, hnw⟩ := hrel
      by_cases hi : i < xs.length
      · have hi' : i < ys.length := by omega
        obtain ⟨b, o, rfl, hce⟩ := hcell (by intro h; subst h; simp at hi)
        obtain ⟨b2, o2, rfl, hce2⟩ := hcell2 (by intro h; subst h; simp at hi')
        have hc1 := hnw.cell (hce i hi) (fun h => h)
        have hc2' := hnw.cell (hce2 i hi') (fun h => h)
        have hg1 : xs[i]? = some xs[i] := List.getElem?_eq_getElem hi
        have hg2 : ys[i]? = some ys[i] := List.getElem?_eq_getElem hi'
        generalize hxe : xs[i] = p at *
        generalize hye : ys[i] = q at *
        have HG1 := hid hg1
        have HG2 := hid hg2
        have HI := hid hi2
        have HW := hid hnw
        clear hg1 hg2 hi2 hxe hye hce hce2 hcell hcell2 hnw
        unfold cb at hc1 hc2'
        by_cases hpq : p = q
        · subst hpq
          have hb2 : (((p.toNat : Nat) : Int) != ((p.toNat : Nat) : Int)) = false := by simp
          go_wp2_with fail
          go_quiet (fail)
          go_wp2_with fail
          go_roundw
          case rel => exact ⟨i + 1, by go_num, by omega, take_eq_step HI.out HG1.out HG2.out, New.trans HW.out (new_drewN _ _)⟩
          case measure => simp [intOf]; omega
        · have hb2 : (((p.toNat : Nat) : Int) != ((q.toNat : Nat) : Int)) = true := by simp; exact fun h => hpq (UInt8.toNat_inj.mp (by omega))
          have HP := hid hpq
          go_wp2_with fail
          go_quiet (fail)
          go_wp2_with fail
          go_ret
          exact ⟨by rw [show decide (xs = ys) = false from decide_eq_false (get_ne HG1.out HG2.out HP.out)]; rfl, New.trans HW.out (new_drewN _ _)⟩
      · have e : i = xs.length := by omega
        subst e
        have HI : Hid (xs = ys) := by
          show xs = ys
          rw [hl] at hi2
          rw [← hl, List.take_length, hl, List.take_length] at hi2
          exact hi2
        clear hi2 hcell hcell2
        have HW := hid hnw
        clear hnw
        go_wp2_with fail
        go_ret
        exact ⟨by rw [show decide (xs = ys) = true from decide_eq_true HI.out]; rfl, HW.out⟩
  · have hb : (((xs.length : Nat) : Int) != ((ys.length : Nat) : Int)) = true := by simp; omega
    have HL := hid hl
    clear hl
    go_enter Tryd.func41, Tryd.ntmps41
    go_wp2_with fail
    go_ret
    exact ⟨by rw [show decide (xs = ys) = false from decide_eq_false (fun h => HL.out (congrArg List.length h))]; rfl, Upd.refl _ _⟩
end Go.Proofs.YtbllpajibhiobaaDoor

namespace Go.Proofs.YtbllpajibhiobaaDoor
open Go.RowKit Go.Proofs.Own
set_option maxRecDepth 100000
set_option maxHeartbeats 2000000

/-- a slice of bytes as a string -/
theorem Rd.str {w : World} {v : Value} {bs : List UInt8} (h : Rd w v bs) : (convert 94 9 v).run Tryd.prog w = .ok (.string ⟨bs.toArray⟩) w := by
  obtain ⟨a, cap, rfl, h1, h2, h3⟩ := h
  cases a with
  | none =>
    have hc := h2 rfl
    subst hc
    have : bs = [] := List.eq_nil_of_length_eq_zero (by omega)
    subst this
    exact run_convert_bytes_nil (P := Tryd.prog) w 94 5 Tryd.underlying94 Tryd.underlying5 0 0 9 Tryd.underlying9
  | some ad =>
    exact run_convert_bytes_back (P := Tryd.prog) w 94 9 5 ad cap bs Tryd.underlying94 Tryd.underlying5 Tryd.underlying9 (fun j hj => by
      obtain ⟨b, o, e, hc⟩ := h3 (by intro e; subst e; simp at hj)
      cases e
      rw [Addr.add_lit]
      exact hc j hj)
end Go.Proofs.YtbllpajibhiobaaDoor

namespace Go.Proofs
open Go.Shelf
end Go.Proofs

namespace Go.Proofs.YtbllpajibhiobaaDoor
open Go.RowKit Go.Proofs.Leb Go.Proofs.Own
set_option maxRecDepth 100000
set_option maxHeartbeats 2000000

theorem putU_any (v : Value) (bs : List UInt8) (x : Nat) (w : World) (hx : x < 18446744073709551616) (hn : bs.length ≤ 100000000) (hown : Bytes w v bs) :
    Calls Tryd.prog 37 #[v, .int .u64 x] w (Post w v (bs ++ encU x 0)) := by
  go_enter Tryd.func37, Tryd.ntmps37
  go_wp2_with fail
  go_loopw [0, 1] (fun b c wr => ∃ (d : List UInt8) (y : Nat), c = .int .u64 y ∧ y < 18446744073709551616 ∧ d ++ encU y 0 = bs ++ encU x 0 ∧ Bytes wr b d ∧ Adds w wr v b)
    (fun _ c _ => (intOf c).toNat)
  case atStart => exact ⟨bs, x, rfl, hx, rfl, hown, Adds.refl _ _⟩
  case round =>
    obtain ⟨d, y, rfl, hy, hd, hb, ha⟩ := hrel
    have hlen : d.length ≤ 100000010 := by
      have h1 := congrArg List.length hd
      have h2 := encU_len_le 10 x (by decide) (Nat.lt_trans hx (by decide))
      simp only [List.length_append] at h1
      omega
    have HD := hid hd
    clear hd
    by_cases hlt : (128 : Int) ≤ y
    · go_wp2_with (at_builtin; refine hold ?_)
      refine appB (.tmp 7) (.tmp 11) (UInt8.ofNat (y % 128 + 128)) hb ?_ (by omega) rfl rfl rfl rfl ?_
      · rw [or128, u8_of _ (by omega)]
      intro v' w1 hb1 ha1
      have ha2 := ha.trans ha1
      clear ha1 hb ha
      go_wp2_with fail
      go_roundw
      case rel =>
        refine ⟨_, y / 128, by go_num, by omega, ?_, hb1, ha2⟩
        rw [← HD.out, encU_more y 0 (by omega), if_neg (by omega)]
        simp
      case measure => simp [intOf]; omega
    · go_wp2_with (at_builtin; refine hold ?_)
      refine appB (.tmp 15) (.tmp 18) (UInt8.ofNat y) hb ?_ (by omega) rfl rfl rfl rfl ?_
      · rw [u8_of _ (by omega)]
      intro v' w1 hb1 ha1
      have ha2 := ha.trans ha1
      clear ha1 hb ha
      go_wp2_with fail
      go_ret
      refine ⟨v', rfl, ?_, ha2⟩
      rw [← HD.out, encU_last y (by omega)]
      exact hb1

theorem putS_any (v : Value) (bs : List UInt8) (x : Int) (w : World) (h1 : -9223372036854775808 ≤ x) (h2 : x ≤ 9223372036854775807) (hn : bs.length ≤ 100000000) (hown : Bytes w v bs) :
    Calls Tryd.prog 62 #[v, .int .i64 x] w (Post w v (bs ++ encS x 0)) := by
  go_enter Tryd.func62, Tryd.ntmps62
  go_wp2_with fail
  go_loopw [0, 1] (fun b c wr => ∃ (d : List UInt8) (y : Int), c = .int .i64 y ∧ -9223372036854775808 ≤ y ∧ y ≤ 9223372036854775807 ∧ d ++ encS y 0 = bs ++ encS x 0 ∧ Bytes wr b d ∧ Adds w wr v b)
    (fun _ c _ => (intOf c).natAbs)
  case atStart => exact ⟨bs, x, rfl, h1, h2, rfl, hown, Adds.refl _ _⟩
  case round =>
    obtain ⟨d, y, rfl, hy1, hy2, hd, hb, ha⟩ := hrel
    have hlen : d.length ≤ 100000010 := by
      have h3 := congrArg List.length hd
      have h4 := encS_len_le 10 x (by decide) (by omega) (by omega)
      simp only [List.length_append] at h3
      omega
    have HD := hid hd
    clear hd
    have hcase : y < -64 ∨ (¬ y < -64 ∧ 63 < y) ∨ (¬ y < -64 ∧ ¬ 63 < y) := by omega
    rcases hcase with hlt | ⟨hge, hgt⟩ | ⟨hge, hle⟩
    · go_wp2_with (at_builtin; refine hold ?_)
      refine appB (.tmp 11) (.tmp 15) (UInt8.ofNat ((y % 128).toNat + 128)) hb ?_ (by omega) rfl rfl rfl rfl ?_
      · rw [or128i, u8_of _ (by omega)]; omega
      intro v' w1 hb1 ha1
      have ha2 := ha.trans ha1
      clear ha1 hb ha
      go_wp2_with fail
      go_roundw
      case rel =>
        refine ⟨_, y / 128, by go_num, by omega, by omega, ?_, hb1, ha2⟩
        rw [← HD.out, encS_more y 0 (by omega), if_neg (by omega)]
        simp
      case measure => simp [intOf]; omega
    · go_wp2_with (at_builtin; refine hold ?_)
      refine appB (.tmp 11) (.tmp 15) (UInt8.ofNat ((y % 128).toNat + 128)) hb ?_ (by omega) rfl rfl rfl rfl ?_
      · rw [or128i, u8_of _ (by omega)]; omega
      intro v' w1 hb1 ha1
      have ha2 := ha.trans ha1
      clear ha1 hb ha
      go_wp2_with fail
      go_roundw
      case rel =>
        refine ⟨_, y / 128, by go_num, by omega, by omega, ?_, hb1, ha2⟩
        rw [← HD.out, encS_more y 0 (by omega), if_neg (by omega)]
        simp
      case measure => simp [intOf]; omega
    · go_wp2_with (at_builtin; refine hold ?_)
      refine appB (.tmp 19) (.tmp 23) (UInt8.ofNat (y % 128).toNat) hb ?_ (by omega) rfl rfl rfl rfl ?_
      · rw [and127i, u8_of _ (by omega)]; omega
      intro v' w1 hb1 ha1
      have ha2 := ha.trans ha1
      clear ha1 hb ha
      go_wp2_with fail
      go_ret
      refine ⟨v', rfl, ?_, ha2⟩
      rw [← HD.out, encS_last y (by omega) (by omega)]
      exact hb1

end Go.Proofs.YtbllpajibhiobaaDoor

namespace Go.Proofs.YtbllpajibhiobaaDoor
open Go.RowKit Go.Proofs.Leb Go.Proofs.Own
set_option maxRecDepth 100000
set_option maxHeartbeats 2000000

end Go.Proofs.YtbllpajibhiobaaDoor

namespace Go.Proofs.YtbllpajibhiobaaDoor
open Go.RowKit Go.Proofs.Leb Go.Proofs.Own
set_option maxRecDepth 100000
set_option maxHeartbeats 2000000

end Go.Proofs.YtbllpajibhiobaaDoor

namespace Go.Proofs.YtbllpajibhiobaaDoor
open Go.RowKit Go.Proofs.Leb Go.Proofs.Own
set_option maxRecDepth 100000
set_option maxHeartbeats 2000000

/-- bytes as a text -/
def St (bs : List UInt8) : Value := .string ⟨bs.toArray⟩
theorem st_cat (a b : List UInt8) : (⟨a.toArray⟩ : ByteArray) ++ ⟨b.toArray⟩ = ⟨(a ++ b).toArray⟩ := by
  apply ByteArray.ext
  simp
/-- a number of 32 bits in so many bytes more, five at most -/
def numV (v more : Nat) : List UInt8 := if (encU v more).length ≤ 5 then encU v more else encU v (5 - (encU v 0).length)
theorem encU_five {v : Nat} (hv : v < 4294967296) : (encU v 0).length ≤ 5 := encU_len_le 5 v (by decide) (Nat.lt_trans hv (by decide))
theorem numV_zero {v : Nat} (hv : v < 4294967296) : numV v 0 = encU v 0 := if_pos (encU_five hv)
theorem numV_len {v : Nat} (hv : v < 4294967296) (more : Nat) : 1 ≤ (numV v more).length ∧ (numV v more).length ≤ 5 := by
  have h5 := encU_five hv
  have h1 := encU_len v more
  have h2 := encU_len v (5 - (encU v 0).length)
  have h0 : 1 ≤ (encU v 0).length := encU_ne v 0
  unfold numV
  split <;> omega
def Says (bs : List UInt8) (w : World) (e : Ending) (w' : World) : Prop := e = .returned (.string ⟨bs.toArray⟩) ∧ New w w'

/-- a text's bytes -/
def lb (s : ByteArray) : List UInt8 := s.data.toList
theorem lb_len (s : ByteArray) : (lb s).length = s.size := by unfold lb; simp
theorem lb_of (s : ByteArray) : s = ⟨(lb s).toArray⟩ := rfl
theorem lb_get (s : ByteArray) (i : Nat) (h : i < s.size) : (lb s)[i]? = some s[i] := by
  unfold lb
  rw [Array.getElem?_toList, Array.getElem?_eq_getElem (by exact h)]
  rfl
def valsV (s : List UInt8) : Bool := s.all fun x => valV x.toNat
theorem all_take {s : List UInt8} {p : UInt8 → Bool} {i : Nat} {x : UInt8} (h : (s.take i).all p = true) (hx : s[i]? = some x) (hp : p x = true) : (s.take (i + 1)).all p = true := by
  rw [List.take_add_one, hx]
  simp only [List.all_append, h, Option.toList_some, List.all_cons, hp, List.all_nil, Bool.and_self]
theorem all_not {s : List UInt8} {p : UInt8 → Bool} {i : Nat} {x : UInt8} (hx : s[i]? = some x) (hp : p x = false) : s.all p = false := by
  rw [List.all_eq_false]
  exact ⟨x, List.mem_of_getElem? hx, by simp [hp]⟩
end Go.Proofs.YtbllpajibhiobaaDoor

namespace Go.Proofs.YtbllpajibhiobaaDoor
open Go.RowKit Go.Proofs.Leb Go.Proofs.Own
set_option maxRecDepth 100000
set_option maxHeartbeats 2000000

theorem any_yes {s : List UInt8} {p : UInt8 → Bool} {i : Nat} {x : UInt8} (hx : s[i]? = some x) (hp : p x = true) : s.any p = true := by
  rw [List.any_eq_true]
  exact ⟨x, List.mem_of_getElem? hx, hp⟩
theorem any_take {s : List UInt8} {p : UInt8 → Bool} {i : Nat} {x : UInt8} (h : (s.take i).any p = false) (hx : s[i]? = some x) (hp : p x = false) : (s.take (i + 1)).any p = false := by
  rw [List.take_add_one, hx]
  simp only [List.any_append, h, Option.toList_some, List.any_cons, hp, List.any_nil, Bool.or_self]
def notV (x : UInt8) : Bool := !valV x.toNat
def far (x : UInt8) : Bool := decide (32 ≤ (x.toNat : Int))
theorem nv_one (x : UInt8) (w : World) : Calls Tryd.prog 78 #[.int .u8 (x.toNat : Nat)] w (IsPost (notV x) w) := by
  have HV := hid (fun w => vright_any x.toNat w)
  unfold notV
  generalize valV x.toNat = b at *
  go_enter Tryd.func78, Tryd.ntmps78
  go_wp2_with fail
  refine (HV.out _).mono ?_
  rintro e w' ⟨rfl, rfl⟩
  go_wp2_with fail
  go_ret
  exact ⟨rfl, rfl⟩
theorem fa_one (x : UInt8) (w : World) : Calls Tryd.prog 71 #[.int .u8 (x.toNat : Nat)] w (IsPost (far x) w) := by
  go_enter Tryd.func71, Tryd.ntmps71
  go_wp2_with fail
  go_ret
  exact ⟨rfl, rfl⟩

theorem idxnv_any (v : Value) (bs : List UInt8) (w : World) (hr : Rd w v bs) (hl : bs.length ≤ 9223372036854775807) :
    Calls Tryd.prog 79 #[v, .func (.func 78) #[] #[]] w fun e w' => ∃ n : Int, e = .returned (.int .i64 n) ∧ decide (0 ≤ n) = bs.any notV ∧ w = w' := by
  obtain ⟨a, c, rfl, hc, hn, hcell⟩ := hr
  have HP := hid (fun (x : UInt8) w => nv_one x w)
  go_enter Tryd.func79, Tryd.ntmps79
  go_wp2_with fail
  go_loop [8] (fun c => ∃ i : Nat, c = .int .i64 i ∧ i ≤ bs.length ∧ (bs.take i).any notV = false) (fun c => bs.length - (intOf c).toNat)
  case atStart => exact ⟨0, rfl, by omega, by simp⟩
  case round =>
    obtain ⟨i, rfl, hi1, hi2⟩ := hrel
    by_cases hi : i < bs.length
    · obtain ⟨b, o, rfl, hce⟩ := hcell (by intro h; subst h; simp at hi)
      have hc1 := hce i hi
      have hg1 : bs[i]? = some bs[i] := List.getElem?_eq_getElem hi
      generalize hxe : bs[i] = x at *
      have HG := hid hg1
      have HI := hid hi2
      clear hg1 hi2 hxe hce hcell
      unfold cb at hc1
      cases hf : notV x with
      | true =>
        have HF := hid hf
        clear hf
        go_wp2_with fail
        refine (HP.out _ _).mono ?_
        rintro e w' ⟨rfl, rfl⟩
        rw [HF.out]
        go_wp2_with fail
        go_ret
        refine ⟨_, rfl, ?_, rfl⟩
        rw [any_yes HG.out HF.out]
        exact decide_eq_true (by omega)
      | false =>
        have HF := hid hf
        clear hf
        go_wp2_with fail
        refine (HP.out _ _).mono ?_
        rintro e w' ⟨rfl, rfl⟩
        rw [HF.out]
        go_wp2_with fail
        go_round
        case rel => exact ⟨i + 1, by go_num, by omega, any_take HI.out HG.out HF.out⟩
        case measure => simp [intOf]; omega
    · have e : i = bs.length := by omega
      subst e
      rw [List.take_length] at hi2
      have HI := hid hi2
      clear hi2 hcell
      go_wp2_with fail
      go_ret
      refine ⟨_, rfl, ?_, rfl⟩
      rw [HI.out]
      rfl

theorem connv_any (v : Value) (bs : List UInt8) (w : World) (hr : Rd w v bs) (hl : bs.length ≤ 9223372036854775807) :
    Calls Tryd.prog 77 #[v, .func (.func 78) #[] #[]] w (IsPost (bs.any notV) w) := by
  have HI := hid (idxnv_any v bs w hr hl)
  clear hr
  go_enter Tryd.func77, Tryd.ntmps77
  go_wp2_with fail
  refine HI.out.mono ?_
  rintro e w' ⟨n, rfl, hn, rfl⟩
  have HN := hid hn
  clear hn
  go_wp2_with fail
  go_ret
  exact ⟨by rw [← HN.out]; rfl, rfl⟩

theorem idxfa_any (v : Value) (bs : List UInt8) (w : World) (hr : Rd w v bs) (hl : bs.length ≤ 9223372036854775807) :
    Calls Tryd.prog 76 #[v, .func (.func 71) #[] #[]] w fun e w' => ∃ n : Int, e = .returned (.int .i64 n) ∧ decide (0 ≤ n) = bs.any far ∧ w = w' := by
  obtain ⟨a, c, rfl, hc, hn, hcell⟩ := hr
  have HP := hid (fun (x : UInt8) w => fa_one x w)
  go_enter Tryd.func76, Tryd.ntmps76
  go_wp2_with fail
  go_loop [8] (fun c => ∃ i : Nat, c = .int .i64 i ∧ i ≤ bs.length ∧ (bs.take i).any far = false) (fun c => bs.length - (intOf c).toNat)
  case atStart => exact ⟨0, rfl, by omega, by simp⟩
  case round =>
    obtain ⟨i, rfl, hi1, hi2⟩ := hrel
    by_cases hi : i < bs.length
    · obtain ⟨b, o, rfl, hce⟩ := hcell (by intro h; subst h; simp at hi)
      have hc1 := hce i hi
      have hg1 : bs[i]? = some bs[i] := List.getElem?_eq_getElem hi
      generalize hxe : bs[i] = x at *
      have HG := hid hg1
      have HI := hid hi2
      clear hg1 hi2 hxe hce hcell
      unfold cb at hc1
      cases hf : far x with
      | true =>
        have HF := hid hf
        clear hf
        go_wp2_with fail
        refine (HP.out _ _).mono ?_
        rintro e w' ⟨rfl, rfl⟩
        rw [HF.out]
        go_wp2_with fail
        go_ret
        refine ⟨_, rfl, ?_, rfl⟩
        rw [any_yes HG.out HF.out]
        exact decide_eq_true (by omega)
      | false =>
        have HF := hid hf
        clear hf
        go_wp2_with fail
        refine (HP.out _ _).mono ?_
        rintro e w' ⟨rfl, rfl⟩
        rw [HF.out]
        go_wp2_with fail
        go_round
        case rel => exact ⟨i + 1, by go_num, by omega, any_take HI.out HG.out HF.out⟩
        case measure => simp [intOf]; omega
    · have e : i = bs.length := by omega
      subst e
      rw [List.take_length] at hi2
      have HI := hid hi2
      clear hi2 hcell
      go_wp2_with fail
      go_ret
      refine ⟨_, rfl, ?_, rfl⟩
      rw [HI.out]
      rfl

theorem confa_any (v : Value) (bs : List UInt8) (w : World) (hr : Rd w v bs) (hl : bs.length ≤ 9223372036854775807) :
    Calls Tryd.prog 70 #[v, .func (.func 71) #[] #[]] w (IsPost (bs.any far) w) := by
  have HI := hid (idxfa_any v bs w hr hl)
  clear hr
  go_enter Tryd.func70, Tryd.ntmps70
  go_wp2_with fail
  refine HI.out.mono ?_
  rintro e w' ⟨n, rfl, hn, rfl⟩
  have HN := hid hn
  clear hn
  go_wp2_with fail
  go_ret
  exact ⟨by rw [← HN.out]; rfl, rfl⟩

theorem any_notV (s : List UInt8) : (!s.any notV) = valsV s := by
  unfold valsV notV
  rw [List.not_any_eq_all_not]
  simp
/-- wtype.right -/
theorem rightV_any (v : Value) (bs : List UInt8) (w : World) (hr : Rd w v bs) (hl : bs.length ≤ 9223372036854775807) :
    Calls Tryd.prog 72 #[v] w (IsPost (valsV bs) w) := by
  have HC := hid (connv_any v bs w hr hl)
  rw [← any_notV]
  obtain ⟨a, c, rfl⟩ := hr.shape
  clear hr
  go_enter Tryd.func72, Tryd.ntmps72
  go_wp2_with fail
  refine HC.out.mono ?_
  rintro e w' ⟨rfl, rfl⟩
  go_wp2_with fail
  go_ret
  exact ⟨rfl, rfl⟩
theorem funcRight_any (v v2 : Value) (bs ds : List UInt8) (w : World) (hr : Rd w v bs) (hl : bs.length ≤ 9223372036854775807) (hr2 : Rd w v2 ds) (hl2 : ds.length ≤ 9223372036854775807) :
    Calls Tryd.prog 56 #[.agg #[v, v2]] w (IsNew (valsV bs && valsV ds) w) := by
  have HC := hid (fun w' (h : New w w') => rightV_any v bs w' (hr.new h) hl)
  have HD := hid (fun w' (h : New w w') => rightV_any v2 ds w' (hr2.new h) hl2)
  obtain ⟨a, c, rfl⟩ := hr.shape
  obtain ⟨a2, c2, rfl⟩ := hr2.shape
  clear hr hr2
  have HN := hid (fun o => (Upd.refl (fun _ => False) w).alloc o)
  cases h : valsV bs with
  | true =>
    rw [h] at HC
    rw [Bool.true_and]
    go_enter Tryd.func56, Tryd.ntmps56
    go_wp2_with fail
    refine (HC.out _ (HN.out _)).mono ?_
    rintro e w' ⟨rfl, rfl⟩
    go_wp2_with fail
    refine (HD.out _ (HN.out _)).mono ?_
    rintro e w' ⟨rfl, rfl⟩
    go_wp2_with fail
    go_ret
    exact ⟨rfl, HN.out _⟩
  | false =>
    rw [h] at HC
    rw [Bool.false_and]
    go_enter Tryd.func56, Tryd.ntmps56
    go_wp2_with fail
    refine (HC.out _ (HN.out _)).mono ?_
    rintro e w' ⟨rfl, rfl⟩
    go_wp2_with fail
    go_ret
    exact ⟨rfl, HN.out _⟩

theorem str_bytes (w : World) (s : ByteArray) : ∃ v' w', (convert 9 94 (.string s)).run Tryd.prog w = .ok v' w' ∧ Rd w' v' (lb s) ∧ New w w' := by
  refine ⟨_, _, run_bytes_of_string w 9 94 5 s Tryd.underlying9 Tryd.underlying94 Tryd.underlying5, ?_, (Upd.refl _ _).drew.alloc _⟩
  rw [← lb_len]
  refine ⟨_, _, rfl, ?_, (fun h => by cases h), fun _ => ⟨w.heap.size, 0, rfl, fun i hi => ?_⟩⟩
  · exact grownCap_ge _ _ _ _
  · have h2 := heap_alloc_new w.drew (.cells (bytesRow s (grownCap w (lb s).length 0 5)) 5 ((bytesRow s (grownCap w (lb s).length 0 5)).size, (bytesRow s (grownCap w (lb s).length 0 5)).size + 1))
    have h3 : w.drew.heap.size = w.heap.size := rfl
    rw [h3] at h2
    rw [cell_of_row _ w.heap.size (0 + i) _ _ _ h2, Nat.zero_add]
    have hi' : i < s.data.size := by rw [lb_len] at hi; exact hi
    unfold bytesRow
    rw [Array.getElem?_append_left (by simpa using hi')]
    simp only [Array.getElem?_map, cb, lb]
    rw [Array.getElem?_eq_getElem hi']
    rfl
theorem shuffles_any (s : ByteArray) (w : World) (hl : s.size ≤ 9223372036854775807) :
    Calls Tryd.prog 55 #[.string s] w (IsNew ((lb s).all fun x => decide ((x.toNat : Int) < 32)) w) := by
  obtain ⟨v, wb, hrun, hrd, hn⟩ := str_bytes w s
  have HC := hid (confa_any v (lb s) wb hrd (by rw [lb_len]; exact hl))
  have e : (lb s).all (fun x => decide ((x.toNat : Int) < 32)) = !(lb s).any far := by
    rw [List.not_any_eq_all_not]
    congr 1
    funext x
    unfold far
    by_cases h : (x.toNat : Int) < 32 <;> simp [h] <;> omega
  rw [e]
  obtain ⟨a, c, rfl⟩ := hrd.shape
  have HN := hid hn
  clear hrd hn
  go_enter Tryd.func55, Tryd.ntmps55
  go_wp2_with fail
  refine HC.out.mono ?_
  rintro e w' ⟨rfl, rfl⟩
  go_wp2_with fail
  go_ret
  exact ⟨rfl, HN.out⟩
end Go.Proofs.YtbllpajibhiobaaDoor
