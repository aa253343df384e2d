/-
  What a call does to memory, and appends to rows that the call itself owns: generic over the program.
-/
import Derived.WalkKit
import Derived.Test.YtkfohickmdkplaaChecked
import Derived.Laws.Rows
import Derived.OpenShut
import Derived.ChangeOld
import Derived.Lib.SmallJoins
import Derived.ProofKit
import Derived.Below
import Derived.SizedLaws
import Derived.Deep.SlicePairs
namespace Go.Proofs.Own
open Go Go.RowKit

/-- a goal at which the walk stops -/
def Hold (p : Prop) : Prop := p
theorem hold {p : Prop} (h : Hold p) : p := h

/-- w' is w with new blocks, and with writes to the blocks of S alone -/
structure Upd (S : Nat → Prop) (w w' : World) : Prop where
  os : w'.os = w.os
  tape : w'.tape = w.tape
  output : w'.output = w.output
  size : w.heap.size ≤ w'.heap.size
  block : ∀ k, k < w.heap.size → ¬ S k → w'.heap[k]? = w.heap[k]?

/-- nothing is written that was there -/
abbrev New (w w' : World) : Prop := Upd (fun _ => False) w w'

theorem Upd.refl (S : Nat → Prop) (w : World) : Upd S w w := ⟨rfl, rfl, rfl, Nat.le_refl _, fun _ _ _ => rfl⟩
theorem Upd.mono {S T : Nat → Prop} {w w' : World} (h : Upd S w w') (hs : ∀ k, k < w.heap.size → S k → T k) : Upd T w w' :=
  ⟨h.os, h.tape, h.output, h.size, fun k hk hn => h.block k hk (fun hS => hn (hs k hk hS))⟩
theorem Upd.trans {S T : Nat → Prop} {a b c : World} (h : Upd S a b) (k : Upd T b c) (hT : ∀ i, i < a.heap.size → T i → S i) : Upd S a c :=
  ⟨k.os.trans h.os, k.tape.trans h.tape, k.output.trans h.output, Nat.le_trans h.size k.size,
    fun i hi hn => (k.block i (Nat.lt_of_lt_of_le hi h.size) (fun ht => hn (hT i hi ht))).trans (h.block i hi hn)⟩
theorem New.trans {a b c : World} (h : New a b) (k : New b c) : New a c := Upd.trans h k (fun _ _ h => h.elim)
theorem New.upd {S : Nat → Prop} {w w' : World} (h : New w w') : Upd S w w' := h.mono (fun _ _ h => h.elim)
theorem Upd.drew {S : Nat → Prop} {a w : World} (h : Upd S a w) : Upd S a w.drew := ⟨h.os, h.tape, h.output, h.size, h.block⟩
theorem Upd.alloc {S : Nat → Prop} {a w : World} (h : Upd S a w) (o : Obj) : Upd S a (w.alloc o) :=
  h.trans ⟨rfl, rfl, rfl, by simp, fun k hk _ => Below.heap_alloc _ _ _ hk⟩ (fun _ _ (h : False) => h.elim)
theorem Upd.setCell {S : Nat → Prop} {a w : World} (h : Upd S a w) {p : Addr} (hp : a.heap.size ≤ p.block ∨ S p.block) (u : Value) : Upd S a (w.setCell p u) := by
  refine h.trans (T := fun k => k = p.block) ⟨rfl, rfl, rfl, by simp [World.setCell], fun k _ hn => Below.heap_setCell _ _ _ _ hn⟩ ?_
  rintro i hi rfl
  rcases hp with hp | hp
  · omega
  · exact hp
theorem Upd.below {S : Nat → Prop} {w w' : World} (h : Upd S w w') (hs : ∀ k, k < w.heap.size → ¬ S k) : Below w.heap.size w w' :=
  ⟨h.os, h.tape, h.output, h.size, fun k hk => h.block k hk (hs k hk)⟩
theorem New.below {w w' : World} (h : New w w') : Below w.heap.size w w' := Upd.below h (fun _ _ h => h)
theorem New.of_below {w w' : World} (h : Below w.heap.size w w') : New w w' := ⟨h.os, h.tape, h.output, h.size, fun k hk _ => h.block k hk⟩
theorem Upd.cell {S : Nat → Prop} {w w' : World} (h : Upd S w w') {a : Addr} {v : Value} (hc : w.cell? a = some v) (hn : ¬ S a.block) : w'.cell? a = some v :=
  (World.cell?_of_block (h.block a.block (World.block_lt_of_cell? w a hc) hn)).trans hc

/-- w' is w with new blocks and writes to v's block alone; v' lies where v lay, or in a new block -/
structure Adds (w w' : World) (v v' : Value) : Prop where
  upd : Upd (fun k => v.ownBlock = some k) w w'
  at' : v'.ownBlock = v.ownBlock ∨ ∃ k, v'.ownBlock = some k ∧ w.heap.size ≤ k
theorem Adds.refl (w : World) (v : Value) : Adds w w v v := ⟨Upd.refl _ _, .inl rfl⟩
theorem Adds.trans {a b c : World} {u v x : Value} (h : Adds a b u v) (k : Adds b c v x) : Adds a c u x := by
  refine ⟨h.upd.trans k.upd ?_, ?_⟩
  · intro i hi hv
    rcases h.at' with e | ⟨j, e, hj⟩
    · rw [← e]; exact hv
    · rw [e] at hv; cases hv; omega
  · rcases k.at' with e | ⟨j, e, hj⟩
    · rw [e]; exact h.at'
    · exact .inr ⟨j, e, Nat.le_trans h.upd.size hj⟩
theorem Adds.ahead {a b c : World} {v x : Value} (h : New a b) (k : Adds b c v x) : Adds a c v x :=
  ⟨(Upd.trans (New.upd h) k.upd (fun _ _ h => h)), k.at'.imp id fun ⟨j, e, hj⟩ => ⟨j, e, Nat.le_trans h.size hj⟩⟩
theorem Adds.then {a b c : World} {v x : Value} (h : Adds a b v x) (k : New b c) : Adds a c v x :=
  ⟨h.upd.trans k (fun _ _ h => h.elim), h.at'⟩

/-- v lies in new memory -/
def Fresh (w : World) (v : Value) : Prop := ∀ k, v.ownBlock = some k → w.heap.size ≤ k
theorem Adds.made {w w0 : World} {g : Nat} {c : Nat} {n : Nat} {o : Obj} {v : Value} (hg : g = w.heap.size) (h : Adds (w.alloc o) w0 (.slice (some ⟨g, 0, none⟩) n c) v) : New w w0 ∧ Fresh w v := by
  subst hg
  refine ⟨Upd.trans ((Upd.refl _ w).alloc o) h.upd ?_, ?_⟩
  · intro i hi h
    have : w.heap.size = i := by cases h; rfl
    omega
  · intro k hk
    rcases h.at' with e | ⟨j, e, hj⟩
    · rw [e] at hk
      have : w.heap.size = k := by cases hk; rfl
      omega
    · rw [e] at hk
      cases hk
      simp at hj
      omega
theorem Fresh.adds {w a b : World} {v v' : Value} (h : Fresh w v) (hw : w.heap.size ≤ a.heap.size) (ha : Adds a b v v') : Fresh w v' := by
  intro k hk
  rcases ha.at' with e | ⟨j, e, hj⟩
  · exact h k (by rw [← e]; exact hk)
  · rw [e] at hk; cases hk; omega
theorem Upd.newAdds {w a b : World} {v v' : Value} (h : New w a) (hf : Fresh w v) (ha : Adds a b v v') : New w b :=
  Upd.trans h ha.upd (fun i hi hk => by have := hf i hk; omega)
theorem Adds.nil {w w' : World} {v : Value} (h : Adds w w' (.slice none 0 0) v) : New w w' ∧ Fresh w v := by
  refine ⟨h.upd.mono (fun k _ h => by cases h), ?_⟩
  intro k hk
  rcases h.at' with e | ⟨j, e, hj⟩
  · rw [e] at hk; cases hk
  · rw [e] at hk; cases hk; exact hj
theorem Fresh.of_new {w0 w : World} {v : Value} (hn : New w0 w) (h : Fresh w v) : Fresh w0 v := fun k hk => Nat.le_trans hn.size (h k hk)
theorem Adds.made' {w0 w w3 : World} {g c n : Nat} {o : Obj} {v : Value} (hg : g = w.heap.size) (hn : New w0 w) (h : Adds (w.alloc o) w3 (.slice (some ⟨g, 0, none⟩) n c) v) : New w0 w3 ∧ Fresh w0 v :=
  have h2 := Adds.made hg h
  ⟨New.trans hn h2.1, Fresh.of_new hn h2.2⟩
/-- the same behind the draw of an order -/
theorem Adds.drewn {w w3 : World} {c n : Nat} {o : Obj} {v : Value} (h : Adds (w.drew.alloc o) w3 (.slice (some ⟨w.heap.size, 0, none⟩) n c) v) : New w w3 ∧ Fresh w v :=
  Adds.made' (w := w.drew) rfl ((Upd.refl _ _).drew) h
/-- what is owned stays owned while other blocks are written -/
theorem ownsRow_upd {w w' : World} {base : Nat} {e : TypeId} {size : Nat} {v : Value} {n : Nat} {xs : List Value} {S : Nat → Prop}
    (h : w.ownsRow base e size v n xs) (hg : Upd S w w') (hne : ∀ k, v.ownBlock = some k → ¬ S k) : w'.ownsRow base e size v n xs := by
  refine ⟨h.1, ?_⟩
  rcases h.2 with hn | ⟨g, cap, cur, rfl, hb, hgg, rest⟩
  · exact .inl hn
  · refine .inr ⟨g, cap, cur, rfl, hb, ?_, rest⟩
    rw [hg.block g (Array.getElem?_eq_some_iff.1 hgg).1 (hne g rfl)]
    exact hgg
theorem ownsRow_new {w w' : World} {base : Nat} {e : TypeId} {size : Nat} {v : Value} {n : Nat} {xs : List Value}
    (h : w.ownsRow base e size v n xs) (hg : New w w') : w'.ownsRow base e size v n xs := ownsRow_upd h hg (fun _ _ h => h)
theorem ownsRow_base {w : World} {base base' : Nat} {e : TypeId} {size : Nat} {v : Value} {n : Nat} {xs : List Value}
    (h : w.ownsRow base e size v n xs) (hb : ∀ k, v.ownBlock = some k → base' ≤ k) : w.ownsRow base' e size v n xs := by
  refine ⟨h.1, ?_⟩
  rcases h.2 with hn | ⟨g, cap, cur, rfl, _, r⟩
  · exact .inl hn
  · exact .inr ⟨g, cap, cur, rfl, hb g rfl, r⟩

section
variable {P : Program}
/-- append to a row that is owned: it grows there, or in a new block -/
theorem run_append_adds (w : World) (t ty e : TypeId) (i : TypeInfo) (z : Value) (size bytes : Nat) (ht : P.underlying t = some (.slice e)) (hi : P.info? e = some i) (hz : i.zero = some z)
    (hsize : i.size = size) (hby : i.bytes = bytes) (hzs : z.cells.size = size) (hsz : 0 < size)
    (base : Nat) (v : Value) (n : Nat) (xs : List Value) (hown : w.ownsRow base e size v n xs)
    (a : Addr) (m c : Nat) (news : List Value) (hl : news.length = m * size) (hnews : ∀ j u, news[j]? = some u → w.cell? (a.add j) = some u) (h1 : ∀ u ∈ news, u.oneCell' = true)
    (h63 : n + m ≤ maxLen) (hbytes : (n + m) * bytes ≤ 140737488355328) (hbase : base ≤ w.heap.size) :
    ∃ v' w', (Builtin.append_ #[t, t] ty #[v, .slice (some a) m c]).run P w = .ok v' w' ∧ w'.ownsRow base e size v' (n + m) (xs ++ news) ∧ Adds w w' v v' := by
  have conv : ∀ {w' : World} {row : Option Nat}, w.grownBy w' row → Upd (fun k => row = some k) w w' := fun g =>
    ⟨g.os, g.tape, g.output, g.size, fun k hk hn => g.block k hk (fun e => hn e.symm)⟩
  rcases hown.2 with ⟨rfl, rfl⟩ | ⟨g, cap, cur, rfl, hbg, hg, hnc, hcm, hcs, htake⟩
  · have hx : xs = [] := List.eq_nil_of_length_eq_zero (by simpa using hown.1)
    subst hx
    obtain ⟨v', w', hr, ho, hg, hn⟩ := run_append_own (P := P) w w.heap.size t ty e i z size bytes ht hi hz hsize hby hzs hsz _ 0 [] (World.ownsRow_nil w _ e size) a m c news hl hnews h1 h63 hbytes (Nat.le_refl _)
    refine ⟨v', w', hr, ?_, conv hg, ?_⟩
    · exact ownsRow_base ho (fun k hk => Nat.le_trans hbase (ho.lt k hk).1)
    · cases hb : v'.ownBlock with
      | none => exact .inl rfl
      | some k => exact .inr ⟨k, rfl, (ho.lt k hb).1⟩
  · by_cases hroom : n + m ≤ cap
    · subst hsize
      have hfit : n * i.size + news.length ≤ cur.size := by rw [hl, hcs, ← Nat.add_mul]; exact Nat.mul_le_mul_right _ hroom
      have hr := run_append_room (P := P) w t ty e i ht hi g n cap cur hg a m c news hl hnews h1 hroom hfit
      obtain ⟨v', w', hr', ho, hg', _⟩ := run_append_own (P := P) w base t ty e i z i.size bytes ht hi hz rfl hby hzs hsz _ n xs hown a m c news hl hnews h1 h63 hbytes hbase
      rw [hr] at hr'
      cases hr'
      exact ⟨_, _, hr, ho, conv hg', .inl rfl⟩
    · obtain ⟨v', w', hr', ho, hg', _⟩ := run_append_own (P := P) w base t ty e i z size bytes ht hi hz hsize hby hzs hsz _ n xs hown a m c news hl hnews h1 h63 hbytes hbase
      subst hsize; subst hby
      have holds : ∀ j u, xs[j]? = some u → w.cell? ((⟨g, 0, none⟩ : Addr).add j) = some u := hown.cells (g := g) rfl
      have hr := run_append_grow (P := P) w t ty e i z ht hi hz ⟨g, 0, none⟩ n cap xs hown.1 holds a m c news hl hnews (by omega) (by simp only [maxLen] at h63; omega) (growslice_fits (by omega) hbytes)
      rw [hr] at hr'
      cases hr'
      exact ⟨_, _, hr, ho, conv hg', .inr ⟨_, rfl, Nat.le_refl _⟩⟩

/-- the walk's law for it, at a goal that is held -/
theorem held_append {ops : Array Oper} {rest : List Oper} {o : Oper} {a : Act} {Q : Exit → Act → World → Prop} {w : World} (t e : TypeId) (size bytes : Nat) (z : Value)
    (hinfo : (P.info? e).map (fun i => (i.zero, i.size, i.bytes)) = some (some z, size, bytes)) (ht : P.underlying t = some (.slice e)) (hzs : z.cells.size = size) (hsz : 0 < size)
    (s x : Operand) (hgd : o.guard = none) (ho : o.op = .call { callee := .builtin .append, args := #[s, x], argTypes := #[t, t] })
    (base : Nat) (v : Value) (n : Nat) (xs : List Value) (hs : a.eval s = v) (hown : w.ownsRow base e size v n xs)
    (ad : Addr) (m c : Nat) (news : List Value) (hx : a.eval x = .slice (some ad) m c) (hl : news.length = m * size) (hnews : ∀ j u, news[j]? = some u → w.cell? (ad.add j) = some u) (h1 : ∀ u ∈ news, u.oneCell' = true)
    (h63 : n + m ≤ maxLen) (hbytes : (n + m) * bytes ≤ 140737488355328) (hbase : base ≤ w.heap.size)
    (h : ∀ v' w', w'.ownsRow base e size v' (n + m) (xs ++ news) → Adds w w' v v' → wpList P ops Q rest (a.put o.dst v') w') : Hold (wpList P ops Q (o :: rest) a w) := by
  obtain ⟨i, hi, h2, h3, h4⟩ := info_parts hinfo
  refine wpList_plain hgd fun K hK => ?_
  obtain ⟨v', w', hr, hw, ha⟩ := run_append_adds (P := P) w t o.type e i z size bytes ht hi h2 h3 h4 hzs hsz base v n xs hown ad m c news hl hnews h1 h63 hbytes hbase
  unfold Oper.wp execOp
  simp only [ho, resolve, invoke, builtin, Sem.run_bind, Sem.run_pure, Result.andThen_ok, List.map_toArray, List.map_cons, List.map_nil, hs, hx, hr]
  exact hK _ _ (h v' w' hw ha)

/-- one element of one cell, laid in a block of its own ahead of it -/
theorem held_append1 {ops : Array Oper} {rest : List Oper} {o : Oper} {a : Act} {Q : Exit → Act → World → Prop} {w : World} (t e : TypeId) (bytes : Nat) (z : Value)
    (hinfo : (P.info? e).map (fun i => (i.zero, i.size, i.bytes)) = some (some z, 1, bytes)) (ht : P.underlying t = some (.slice e)) (hzs : z.cells.size = 1)
    (s x : Operand) (hgd : o.guard = none) (ho : o.op = .call { callee := .builtin .append, args := #[s, x], argTypes := #[t, t] })
    (base : Nat) (v : Value) (n : Nat) (xs : List Value) (hs : a.eval s = v) (hown : w.ownsRow base e 1 v n xs)
    (y : Value) (hx : a.eval x = .slice (some ⟨w.heap.size, 0, none⟩) 1 1) (h1 : y.oneCell' = true)
    (h63 : n + 1 ≤ maxLen) (hbytes : (n + 1) * bytes ≤ 140737488355328) (hbase : base ≤ w.heap.size)
    (h : ∀ v' w', w'.ownsRow base e 1 v' (n + 1) (xs ++ [y]) → Adds w w' v v' → wpList P ops Q rest (a.put o.dst v') w') :
    Hold (wpList P ops Q (o :: rest) a (w.alloc (.cells #[y] e))) := by
  refine held_append t e 1 bytes z hinfo ht hzs (by decide) s x hgd ho base v n xs hs (hown.alloc _) ⟨w.heap.size, 0, none⟩ 1 1 [y] hx rfl ?_ ?_ h63 hbytes (by simp; omega) ?_
  · intro j u hj
    match j, hj with
    | 0, hj => simp at hj; subst hj; simp [Addr.add]
  · intro u hu; simp at hu; subst hu; exact h1
  · intro v' w' ho ha
    exact h v' w' ho (Adds.ahead ((Upd.refl _ _).alloc _) ha)
end
end Go.Proofs.Own

namespace Go.Proofs.Leb

/-- the value of digits to the base 128, the lowest first -/
def val : List UInt8 → Nat
  | [] => 0
  | x :: t => x.toNat % 128 + 128 * val t

/-- how many bytes there are ahead of the first below 128 -/
def stop : List UInt8 → Nat
  | [] => 0
  | x :: t => if x.toNat < 128 then 0 else stop t + 1

theorem u8_lt (x : UInt8) : x.toNat < 256 := x.toNat_lt

theorem val_nil : val [] = 0 := rfl
theorem val_append (a b : List UInt8) : val (a ++ b) = val a + 128 ^ a.length * val b := by
  induction a with
  | nil => simp [val]
  | cons x t ih => simp only [List.cons_append, val, ih, List.length_cons, Nat.pow_succ, Nat.mul_add]; rw [Nat.mul_comm (128 ^ t.length) 128, Nat.mul_assoc]; omega
theorem val_lt (a : List UInt8) : val a < 128 ^ a.length := by
  induction a with
  | nil => simp [val]
  | cons x t ih =>
    simp only [val, List.length_cons, Nat.pow_succ]
    have := Nat.mod_lt x.toNat (show 0 < 128 by decide)
    omega
theorem take_snoc (l : List UInt8) (k : Nat) (h : k < l.length) : l.take (k + 1) = l.take k ++ [l[k]] := by
  rw [List.take_succ_eq_append_getElem h]
theorem val_take_succ (l : List UInt8) (k : Nat) (h : k < l.length) : val (l.take (k + 1)) = val (l.take k) + 128 ^ k * (l[k].toNat % 128) := by
  rw [take_snoc l k h, val_append]
  have : (l.take k).length = k := by simp; omega
  rw [this]
  simp [val]
theorem val_take_lt (l : List UInt8) (k : Nat) : val (l.take k) < 128 ^ k := by
  have h := val_lt (l.take k)
  have h2 : (l.take k).length ≤ k := by simp; omega
  exact Nat.lt_of_lt_of_le h (Nat.pow_le_pow_right (by decide) h2)

theorem stop_le (l : List UInt8) : stop l ≤ l.length := by
  induction l with
  | nil => simp [stop]
  | cons x t ih => simp only [stop, List.length_cons]; split <;> omega
theorem stop_before (l : List UInt8) (i : Nat) (h : i < stop l) (hl : i < l.length) : 128 ≤ l[i].toNat := by
  induction l generalizing i with
  | nil => simp at hl
  | cons x t ih =>
    simp only [stop] at h
    split at h
    · omega
    · cases i with
      | zero => simpa using by omega
      | succ i => simpa using ih i (by omega) (by simpa using hl)
theorem stop_at (l : List UInt8) (h : stop l < l.length) : l[stop l].toNat < 128 := by
  induction l with
  | nil => simp at h
  | cons x t ih =>
    simp only [stop] at h ⊢
    split
    · simpa
    · rename_i hx
      rw [if_neg hx] at h
      simpa using ih (by simpa using h)
/-- what stands at a place tells where the end is -/
theorem stop_step (l : List UInt8) (i : Nat) (h : i ≤ stop l) (hl : i < l.length) : (l[i].toNat < 128 → stop l = i) ∧ (128 ≤ l[i].toNat → i + 1 ≤ stop l) := by
  constructor
  · intro hx
    rcases Nat.lt_or_ge i (stop l) with h1 | h1
    · have := stop_before l i h1 hl; omega
    · omega
  · intro hx
    rcases Nat.lt_or_ge i (stop l) with h1 | h1
    · omega
    · have e : stop l = i := by omega
      have := stop_at l (by omega)
      simp only [e] at this
      omega

/-- a number without a sign, in so many bytes more than it needs -/
def encU (v more : Nat) : List UInt8 :=
  if v ≤ 127 ∧ more = 0 then [UInt8.ofNat v] else UInt8.ofNat (v % 128 + 128) :: encU (v / 128) (if v ≤ 127 then more - 1 else more)
termination_by v + more
decreasing_by
  split
  · omega
  · omega

theorem encU_last (v : Nat) (h : v ≤ 127) : encU v 0 = [UInt8.ofNat v] := by rw [encU]; simp [h]
theorem encU_more (v more : Nat) (h : 127 < v ∨ 0 < more) : encU v more = UInt8.ofNat (v % 128 + 128) :: encU (v / 128) (if v ≤ 127 then more - 1 else more) := by
  rw [encU, if_neg (by omega)]

theorem u8_of (n : Nat) (h : n < 256) : (UInt8.ofNat n).toNat = n := by
  simp only [UInt8.toNat_ofNat']; omega

theorem encU_ne (v more : Nat) : 0 < (encU v more).length := by
  rw [encU]; split <;> simp

theorem encU_val : ∀ (v more : Nat), val (encU v more) = v := by
  intro v more
  induction v, more using encU.induct with
  | case1 v more h =>
    obtain ⟨h1, rfl⟩ := h
    rw [encU_last v h1]; simp only [val, u8_of v (by omega)]; omega
  | case2 v more h ih =>
    simp only [dite_eq_ite] at ih
    rw [encU_more v more (by omega)]
    simp only [val, ih, u8_of (v % 128 + 128) (by omega)]
    omega

theorem encU_stop (r : List UInt8) : ∀ (v more : Nat), stop (encU v more ++ r) + 1 = (encU v more).length := by
  intro v more
  induction v, more using encU.induct with
  | case1 v more h =>
    obtain ⟨h1, rfl⟩ := h
    rw [encU_last v h1]
    simp [stop, u8_of v (by omega)]; omega
  | case2 v more h ih =>
    simp only [dite_eq_ite] at ih
    rw [encU_more v more (by omega)]
    simp only [List.cons_append, stop, u8_of (v % 128 + 128) (by omega), List.length_cons]
    rw [if_neg (by omega)]
    omega

theorem encU_zero (more : Nat) : (encU 0 more).length = more + 1 := by
  induction more with
  | zero => rw [encU_last 0 (by decide)]; rfl
  | succ n ih => rw [encU_more 0 (n + 1) (by omega)]; simp [ih]

theorem encU_len : ∀ (v more : Nat), (encU v more).length = (encU v 0).length + more := by
  intro v
  induction v using Nat.strongRecOn with
  | _ v ih =>
    intro more
    by_cases h : v ≤ 127
    · rw [encU_last v h]
      by_cases hm : more = 0
      · subst hm; rw [encU_last v h]; rfl
      · rw [encU_more v more (by omega), if_pos h]
        have : v / 128 = 0 := by omega
        rw [this]
        simp only [List.length_cons, encU_zero, List.length_nil]
        omega
    · rw [encU_more v more (by omega), encU_more v 0 (by omega), if_neg h, if_neg h]
      simp only [List.length_cons, ih (v / 128) (by omega) more]
      omega

theorem encU_len_le : ∀ (k v : Nat), 0 < k → v < 128 ^ k → (encU v 0).length ≤ k := by
  intro k
  induction k with
  | zero => intro v h; omega
  | succ k ih =>
    intro v _ hv
    by_cases h : v ≤ 127
    · rw [encU_last v h]; simp
    · rw [encU_more v 0 (by omega), if_neg h]
      simp only [List.length_cons]
      have hk : 0 < k := by
        rcases Nat.eq_zero_or_pos k with rfl | hk
        · simp at hv; omega
        · exact hk
      have := ih (v / 128) hk (by rw [Nat.pow_succ] at hv; omega)
      omega

/-- a number that needs more bytes is great -/
theorem encU_len_ge : ∀ (k v : Nat), 128 ^ k ≤ v → k < (encU v 0).length := by
  intro k
  induction k with
  | zero => intro v _; exact encU_ne v 0
  | succ k ih =>
    intro v hv
    have h1 : 128 * 128 ^ k ≤ v := by rw [Nat.pow_succ] at hv; omega
    have h2 : 0 < 128 ^ k := Nat.pow_pos (by decide)
    by_cases h : v ≤ 127
    · omega
    · rw [encU_more v 0 (by omega), if_neg h]
      simp only [List.length_cons]
      have := ih (v / 128) (by omega)
      omega

/-! ### numbers with a sign -/

/-- the value of digits with a sign -/
def sval : List UInt8 → Int
  | [] => 0
  | [x] => if x.toNat % 128 < 64 then (x.toNat % 128 : Nat) else (x.toNat % 128 : Nat) - 128
  | x :: y :: t => (x.toNat % 128 : Nat) + 128 * sval (y :: t)

/-- a number with a sign, in so many bytes more than it needs -/
def encS (v : Int) (more : Nat) : List UInt8 :=
  if -64 ≤ v ∧ v ≤ 63 ∧ more = 0 then [UInt8.ofNat (v % 128).toNat]
  else UInt8.ofNat ((v % 128).toNat + 128) :: encS (v / 128) (if -64 ≤ v ∧ v ≤ 63 then more - 1 else more)
termination_by v.natAbs + more
decreasing_by
  split <;> omega

theorem encS_last (v : Int) (h1 : -64 ≤ v) (h2 : v ≤ 63) : encS v 0 = [UInt8.ofNat (v % 128).toNat] := by rw [encS]; simp [h1, h2]
theorem encS_more (v : Int) (more : Nat) (h : v < -64 ∨ 63 < v ∨ 0 < more) :
    encS v more = UInt8.ofNat ((v % 128).toNat + 128) :: encS (v / 128) (if -64 ≤ v ∧ v ≤ 63 then more - 1 else more) := by
  rw [encS, if_neg (by omega)]
theorem encS_ne (v : Int) (more : Nat) : 0 < (encS v more).length := by
  rw [encS]; split <;> simp

theorem sval_cons (x : UInt8) (t : List UInt8) (h : 0 < t.length) : sval (x :: t) = (x.toNat % 128 : Nat) + 128 * sval t := by
  cases t with
  | nil => simp at h
  | cons y t => rfl

theorem encS_val : ∀ (v : Int) (more : Nat), sval (encS v more) = v := by
  intro v more
  induction v, more using encS.induct with
  | case1 v more h =>
    obtain ⟨h1, h2, rfl⟩ := h
    rw [encS_last v h1 h2]; simp only [sval, u8_of (v % 128).toNat (by omega)]; split <;> omega
  | case2 v more h ih =>
    simp only [dite_eq_ite] at ih
    rw [encS_more v more (by omega), sval_cons _ _ (encS_ne _ _), ih, u8_of _ (by omega)]
    omega

theorem encS_stop (r : List UInt8) : ∀ (v : Int) (more : Nat), stop (encS v more ++ r) + 1 = (encS v more).length := by
  intro v more
  induction v, more using encS.induct with
  | case1 v more h =>
    obtain ⟨h1, h2, rfl⟩ := h
    rw [encS_last v h1 h2]
    simp [stop, u8_of (v % 128).toNat (by omega)]; omega
  | case2 v more h ih =>
    simp only [dite_eq_ite] at ih
    rw [encS_more v more (by omega)]
    simp only [List.cons_append, stop, u8_of ((v % 128).toNat + 128) (by omega), List.length_cons]
    rw [if_neg (by omega)]
    omega

theorem encS_small (v : Int) (h : v = 0 ∨ v = -1) (more : Nat) : (encS v more).length = more + 1 := by
  induction more with
  | zero => rw [encS_last v (by omega) (by omega)]; rfl
  | succ n ih =>
    rw [encS_more v (n + 1) (by omega), if_pos (by omega)]
    have e : v / 128 = v := by omega
    rw [e]
    simp [ih]

theorem encS_len : ∀ (n : Nat) (v : Int) (more : Nat), v.natAbs ≤ n → (encS v more).length = (encS v 0).length + more := by
  intro n
  induction n with
  | zero =>
    intro v more hv
    rw [encS_small v (by omega), encS_small v (by omega)]; omega
  | succ n ih =>
    intro v more hv
    by_cases h : -64 ≤ v ∧ v ≤ 63
    · rw [encS_last v h.1 h.2]
      by_cases hm : more = 0
      · subst hm; rw [encS_last v h.1 h.2]; rfl
      · rw [encS_more v more (by omega), if_pos h]
        simp only [List.length_cons, encS_small (v / 128) (by omega), List.length_nil]
        omega
    · rw [encS_more v more (by omega), encS_more v 0 (by omega), if_neg h, if_neg h]
      simp only [List.length_cons, ih (v / 128) more (by omega)]
      omega

theorem encS_len_le : ∀ (k : Nat) (v : Int), 0 < k → -(64 * 128 ^ (k - 1) : Nat) ≤ v → v < (64 * 128 ^ (k - 1) : Nat) → (encS v 0).length ≤ k := by
  intro k
  induction k with
  | zero => intro v h; omega
  | succ k ih =>
    intro v _ h1 h2
    by_cases h : -64 ≤ v ∧ v ≤ 63
    · rw [encS_last v h.1 h.2]; simp
    · rw [encS_more v 0 (by omega), if_neg h]
      simp only [List.length_cons]
      rcases Nat.eq_zero_or_pos k with rfl | hk
      · simp at h1 h2; omega
      · have e : k + 1 - 1 = (k - 1) + 1 := by omega
        rw [e, Nat.pow_succ] at h1 h2
        have := ih (v / 128) hk (by omega) (by omega)
        omega

/-- the value with a sign, by the one without -/
theorem sval_val : ∀ (l : List UInt8) (h : 0 < l.length), sval l = (val l : Int) - if (l[l.length - 1]'(by omega)).toNat % 128 < 64 then 0 else ((128 ^ l.length : Nat) : Int) := by
  intro l
  induction l with
  | nil => intro h; simp at h
  | cons x t ih =>
    intro _
    cases t with
    | nil => simp only [sval, val, List.length_cons, List.length_nil]; simp; split <;> omega
    | cons y t =>
      have hp : 0 < (y :: t).length := by simp
      rw [sval_cons x _ hp, ih hp]
      have e : ((x :: y :: t)[(x :: y :: t).length - 1]'(by simp)) = ((y :: t)[(y :: t).length - 1]'(by simp)) := by simp
      rw [e]
      simp only [val, List.length_cons, Nat.pow_succ]
      split <;> push_cast <;> omega
/-! ### taking numbers -/

/-- how many bytes a number of so many bits may have -/
def most (bits : Nat) : Nat := (bits + 6) / 7

/-- where the number ends; or where it goes wrong, and how -/
def scan (ok : Nat → Nat → Bool) (b : List UInt8) (bits : Nat) : Nat × Nat :=
  if stop b < most bits then
    if h : stop b < b.length then
      if stop b + 1 = most bits ∧ ok b[stop b].toNat (bits - 7 * stop b) = false then (stop b, 2) else (stop b + 1, 0)
    else (b.length, 1)
  else (most bits - 1, 2)

def okU (x left : Nat) : Bool := decide (x / 2 ^ left = 0)
def okS (x left : Nat) : Bool := decide (x / 2 ^ (left - 1) = 0 ∨ x / 2 ^ (left - 1) = 127 / 2 ^ (left - 1))

def decU (b : List UInt8) (bits : Nat) : Nat × Nat × Nat :=
  (if (scan okU b bits).2 = 0 then val (b.take (scan okU b bits).1) else 0, (scan okU b bits).1, (scan okU b bits).2)
def decS (b : List UInt8) (bits : Nat) : Int × Nat × Nat :=
  (if (scan okS b bits).2 = 0 then sval (b.take (scan okS b bits).1) else 0, (scan okS b bits).1, (scan okS b bits).2)

theorem scan_ok {ok : Nat → Nat → Bool} {b : List UInt8} {bits : Nat} (h : (scan ok b bits).2 = 0) :
    ∃ hl : stop b < b.length, stop b < most bits ∧ (scan ok b bits).1 = stop b + 1 ∧ (stop b + 1 = most bits → ok b[stop b].toNat (bits - 7 * stop b) = true) := by
  unfold scan at h ⊢
  split at h
  · rename_i hs
    split at h
    · rename_i hl
      split at h
      · simp at h
      · rename_i hn
        refine ⟨hl, hs, ?_, ?_⟩
        · rw [if_pos hs, dif_pos hl, if_neg hn]
        · intro he
          cases hk : ok b[stop b].toNat (bits - 7 * stop b)
          · exact absurd ⟨he, hk⟩ hn
          · rfl
    · simp at h
  · simp at h

theorem scan_mk {ok : Nat → Nat → Bool} {b : List UInt8} {bits : Nat} (hl : stop b < b.length) (hs : stop b < most bits)
    (hk : stop b + 1 = most bits → ok b[stop b].toNat (bits - 7 * stop b) = true) : scan ok b bits = (stop b + 1, 0) := by
  unfold scan
  rw [if_pos hs, dif_pos hl, if_neg]
  rintro ⟨h1, h2⟩
  rw [hk h1] at h2
  cases h2

theorem stop_take (b : List UInt8) (k : Nat) (h : k ≤ stop b) : stop (b.take k) = k := by
  have hl := stop_le b
  induction b generalizing k with
  | nil => simp [stop] at h ⊢; omega
  | cons x t ih =>
    cases k with
    | zero => rfl
    | succ k =>
      simp only [stop] at h
      split at h
      · omega
      · rename_i hx
        simp only [List.take_succ_cons, stop, if_neg hx]
        rw [ih k (by omega) (stop_le t)]

/-- cut ahead of its end, bytes lack -/
theorem scan_cut {ok : Nat → Nat → Bool} {b : List UInt8} {bits : Nat} (k : Nat) (h : k ≤ stop b) (hk : k < most bits) : scan ok (b.take k) bits = (k, 1) := by
  have h1 := stop_take b k h
  have h2 := stop_le b
  have h3 : (b.take k).length = k := by rw [List.length_take]; omega
  unfold scan
  rw [h1, if_pos hk, dif_neg (by omega), h3]

theorem most_bits (bits : Nat) (h : 1 ≤ bits) : 1 ≤ most bits ∧ 7 * (most bits - 1) < bits ∧ bits ≤ 7 * most bits := by
  unfold most; omega

/-! ### what is put is taken -/
theorem pow128 (k : Nat) : (128 : Nat) ^ k = 2 ^ (7 * k) := by rw [Nat.pow_mul]

theorem val_take_stop (l : List UInt8) (h : 0 < l.length) : val l = val (l.take (l.length - 1)) + 128 ^ (l.length - 1) * ((l[l.length - 1]'(by omega)).toNat % 128) := by
  have h1 := val_take_succ l (l.length - 1) (by omega)
  rw [show l.length - 1 + 1 = l.length by omega, List.take_length] at h1
  exact h1

theorem back_scanU (v more : Nat) (r : List UInt8) (hv : v < 2 ^ 64) (hm : (encU v more).length ≤ 10) : scan okU (encU v more ++ r) 64 = ((encU v more).length, 0) := by
  have hs := encU_stop r v more
  have hn := encU_ne v more
  have hl : stop (encU v more ++ r) < (encU v more ++ r).length := by rw [List.length_append]; omega
  have hm10 : most 64 = 10 := rfl
  rw [scan_mk hl (by omega), hs]
  intro he
  have e9 : (encU v more).length = 10 := by omega
  have e9' : stop (encU v more ++ r) = 9 := by omega
  have h10 := val_take_stop (encU v more) hn
  rw [encU_val] at h10
  have hx : (encU v more ++ r)[stop (encU v more ++ r)] = (encU v more)[(encU v more).length - 1]'(by omega) := by
    simp only [e9', e9]; rw [List.getElem_append_left]
  have hlt := stop_at _ hl
  rw [hx] at hlt ⊢
  simp only [okU, e9', e9] at hlt h10 ⊢
  simp only [decide_eq_true_eq]
  generalize ((encU v more)[10 - 1]'(by omega)).toNat = x at hlt h10 ⊢
  have : x < 2 := by
    rcases Nat.lt_or_ge x 2 with h | h
    · exact h
    · have h2 : 128 ^ (10 - 1) * 2 ≤ 128 ^ (10 - 1) * (x % 128) := Nat.mul_le_mul_left _ (by omega)
      have h3 : (128 : Nat) ^ (10 - 1) * 2 = 2 ^ 64 := by decide
      omega
  show x / 2 ^ (64 - 7 * 9) = 0
  simp; omega

theorem back_decU (v more : Nat) (r : List UInt8) (hv : v < 2 ^ 64) (hm : (encU v more).length ≤ 10) : decU (encU v more ++ r) 64 = (v, (encU v more).length, 0) := by
  unfold decU
  rw [back_scanU v more r hv hm, if_pos rfl, List.take_left, encU_val]

theorem back_scanS (v : Int) (more : Nat) (r : List UInt8) (h1 : -9223372036854775808 ≤ v) (h2 : v < 9223372036854775808) (hm : (encS v more).length ≤ 10) :
    scan okS (encS v more ++ r) 64 = ((encS v more).length, 0) := by
  have hs := encS_stop r v more
  have hn := encS_ne v more
  have hl : stop (encS v more ++ r) < (encS v more ++ r).length := by rw [List.length_append]; omega
  have hm10 : most 64 = 10 := rfl
  rw [scan_mk hl (by omega), hs]
  intro he
  have e9 : (encS v more).length = 10 := by omega
  have e9' : stop (encS v more ++ r) = 9 := by omega
  have h10 := val_take_stop (encS v more) hn
  have h11 := sval_val (encS v more) hn
  have hb := val_take_lt (encS v more) 9
  rw [encS_val] at h11
  have hx : (encS v more ++ r)[stop (encS v more ++ r)] = (encS v more)[(encS v more).length - 1]'(by omega) := by
    simp only [e9', e9]; rw [List.getElem_append_left]
  have hlt := stop_at _ hl
  rw [hx] at hlt ⊢
  simp only [okS, e9', e9] at hlt h10 h11 ⊢
  simp only [decide_eq_true_eq]
  generalize ((encS v more)[10 - 1]'(by omega)).toNat = x at hlt h10 h11 ⊢
  have p9 : (128 : Nat) ^ 9 = 9223372036854775808 := by decide
  have p10 : (128 : Nat) ^ 10 = 1180591620717411303424 := by decide
  rw [show (10 - 1 : Nat) = 9 from rfl, p9] at h10
  rw [p9] at hb
  rw [p10, h10] at h11
  have hx128 : x % 128 = x := Nat.mod_eq_of_lt hlt
  rw [hx128] at h11
  show x / 2 ^ (64 - 7 * 9 - 1) = 0 ∨ x / 2 ^ (64 - 7 * 9 - 1) = 127 / 2 ^ (64 - 7 * 9 - 1)
  rw [show 64 - 7 * 9 - 1 = 0 from rfl, Nat.pow_zero, Nat.div_one, Nat.div_one]
  have h12 : v = ((val ((encS v more).take 9) + 9223372036854775808 * x : Nat) : Int) - if x < 64 then 0 else 1180591620717411303424 := h11
  clear h11
  split at h12 <;> omega

theorem back_decS (v : Int) (more : Nat) (r : List UInt8) (h1 : -9223372036854775808 ≤ v) (h2 : v < 9223372036854775808) (hm : (encS v more).length ≤ 10) :
    decS (encS v more ++ r) 64 = (v, (encS v more).length, 0) := by
  unfold decS
  rw [back_scanS v more r h1 h2 hm, if_pos rfl, List.take_left, encS_val]

/-! ### the sizes of what is taken -/
theorem decU_lt (b : List UInt8) (bits : Nat) (hb : 1 ≤ bits) : (decU b bits).1 < 2 ^ bits := by
  unfold decU
  simp only
  split
  · rename_i h
    obtain ⟨hl, hs, e, hk⟩ := scan_ok h
    have hm := most_bits bits hb
    rw [e, val_take_succ b _ hl]
    have hv := val_take_lt b (stop b)
    rw [pow128] at hv ⊢
    rcases Nat.lt_or_ge (stop b + 1) (most bits) with h1 | h1
    · have h3 : 2 ^ (7 * stop b) * (b[stop b].toNat % 128) ≤ 2 ^ (7 * stop b) * 127 := Nat.mul_le_mul_left _ (by omega)
      have h4 : (2 : Nat) ^ (7 * stop b + 7) ≤ 2 ^ bits := Nat.pow_le_pow_right (by decide) (by omega)
      rw [Nat.pow_add] at h4
      omega
    · have h2 := hk (by omega)
      simp only [okU, decide_eq_true_eq] at h2
      have h5 : b[stop b].toNat < 2 ^ (bits - 7 * stop b) := by
        rcases Nat.lt_or_ge b[stop b].toNat (2 ^ (bits - 7 * stop b)) with h | h
        · exact h
        · have := Nat.div_pos h (Nat.pow_pos (by decide)); omega
      have h6 : 2 ^ (7 * stop b) * (b[stop b].toNat % 128) ≤ 2 ^ (7 * stop b) * (2 ^ (bits - 7 * stop b) - 1) := Nat.mul_le_mul_left _ (by omega)
      have h7 : 2 ^ (7 * stop b) * 2 ^ (bits - 7 * stop b) = 2 ^ bits := by rw [← Nat.pow_add]; congr 1; omega
      have h8 : 0 < 2 ^ (bits - 7 * stop b) := Nat.pow_pos (by decide)
      rw [Nat.mul_sub, h7] at h6
      have h9 : 2 ^ (7 * stop b) * 1 ≤ 2 ^ bits := by rw [← h7]; exact Nat.mul_le_mul_left _ h8
      omega
  · exact Nat.pow_pos (by decide)

theorem most_mono {s g : Nat} (h : s ≤ g) : most s ≤ most g := by unfold most; omega

theorem small_scan {ok : Nat → Nat → Bool} {b : List UInt8} {s g : Nat} (hs : 1 ≤ s) (hg : s ≤ g) (h : (scan ok b s).2 = 0)
    (hok : ∀ x l l', x < 128 → 1 ≤ l → l ≤ l' → ok x l = true → ok x l' = true) : scan ok b g = scan ok b s := by
  obtain ⟨hl, h1, e, hk⟩ := scan_ok h
  have hm := most_mono hg
  have hb := most_bits s hs
  have e1 := scan_mk hl h1 hk
  rw [e1]
  refine scan_mk hl (by omega) fun he => ?_
  exact hok _ _ _ (stop_at b hl) (by omega) (by omega) (hk (by omega))

theorem okU_mono (x l l' : Nat) (_ : x < 128) (_ : 1 ≤ l) (h : l ≤ l') (hk : okU x l = true) : okU x l' = true := by
  simp only [okU, decide_eq_true_eq] at hk ⊢
  have : 2 ^ l ≤ 2 ^ l' := Nat.pow_le_pow_right (by decide) h
  have h0 : 0 < 2 ^ l := Nat.pow_pos (by decide)
  have h1 : x < 2 ^ l := by
    rcases Nat.lt_or_ge x (2 ^ l) with h | h
    · exact h
    · have := Nat.div_pos h h0; omega
  exact Nat.div_eq_of_lt (by omega)
theorem okS_mono (x l l' : Nat) (_ : x < 128) (h1 : 1 ≤ l) (h : l ≤ l') (hk : okS x l = true) : okS x l' = true := by
  simp only [okS, decide_eq_true_eq] at hk ⊢
  have e : 2 ^ (l' - 1) = 2 ^ (l - 1) * 2 ^ (l' - l) := by rw [← Nat.pow_add]; congr 1; omega
  rw [e, ← Nat.div_div_eq_div_mul, ← Nat.div_div_eq_div_mul]
  rcases hk with hk | hk
  · left; rw [hk]; simp
  · right; rw [hk]

theorem small_decU {b : List UInt8} {s g : Nat} (hs : 1 ≤ s) (hg : s ≤ g) (h : (decU b s).2.2 = 0) : decU b g = decU b s := by
  have h' : (scan okU b s).2 = 0 := h
  unfold decU
  rw [small_scan hs hg h' okU_mono]
theorem small_decS {b : List UInt8} {s g : Nat} (hs : 1 ≤ s) (hg : s ≤ g) (h : (decS b s).2.2 = 0) : decS b g = decS b s := by
  have h' : (scan okS b s).2 = 0 := h
  unfold decS
  rw [small_scan hs hg h' okS_mono]

/-- a top digit, with its sign -/
def top (x : Nat) : Int := if x < 64 then x else (x : Int) - 128

theorem sval_take_succ (b : List UInt8) (k : Nat) (h : k < b.length) (hx : b[k].toNat < 128) :
    sval (b.take (k + 1)) = (val (b.take k) : Int) + ((128 ^ k : Nat) : Int) * top b[k].toNat := by
  have hlen : (b.take (k + 1)).length = k + 1 := by rw [List.length_take]; omega
  have h1 := sval_val (b.take (k + 1)) (by omega)
  have h2 : (b.take (k + 1))[(b.take (k + 1)).length - 1]'(by omega) = b[k] := by
    simp only [hlen, Nat.add_sub_cancel, List.getElem_take]
  rw [h2, Nat.mod_eq_of_lt hx, hlen, val_take_succ b k h, Nat.mod_eq_of_lt hx, Nat.pow_succ] at h1
  rw [h1]
  unfold top
  generalize 128 ^ k = P
  generalize b[k].toNat = x at hx ⊢
  split
  · push_cast; omega
  · push_cast; rw [Int.mul_sub]; omega

theorem decS_range (b : List UInt8) (bits : Nat) (hb : 1 ≤ bits) : -((2 ^ (bits - 1) : Nat) : Int) ≤ (decS b bits).1 ∧ (decS b bits).1 < ((2 ^ (bits - 1) : Nat) : Int) := by
  have hpos : 0 < 2 ^ (bits - 1) := Nat.pow_pos (by decide)
  unfold decS
  simp only
  split
  · rename_i h
    obtain ⟨hl, hs, e, hk⟩ := scan_ok h
    have hm := most_bits bits hb
    have hx := stop_at b hl
    rw [e, sval_take_succ b _ hl hx]
    have hv := val_take_lt b (stop b)
    have key : ∃ q : Nat, 128 ^ stop b * 2 ^ q ≤ 2 ^ (bits - 1) ∧ -((2 ^ q : Nat) : Int) ≤ top b[stop b].toNat ∧ top b[stop b].toNat < ((2 ^ q : Nat) : Int) := by
      rcases Nat.lt_or_ge (stop b + 1) (most bits) with h1 | h1
      · refine ⟨6, ?_, ?_, ?_⟩
        · rw [pow128, ← Nat.pow_add]; exact Nat.pow_le_pow_right (by decide) (by omega)
        · unfold top; split <;> omega
        · unfold top; split <;> omega
      · have h2 := hk (by omega)
        simp only [okS, decide_eq_true_eq] at h2
        have h7 : bits - 7 * stop b ≤ 7 := by omega
        have h8 : 1 ≤ bits - 7 * stop b := by omega
        refine ⟨bits - 7 * stop b - 1, ?_, ?_⟩
        · rw [pow128, ← Nat.pow_add]; exact Nat.pow_le_pow_right (by decide) (by omega)
        · generalize bits - 7 * stop b = l at h2 h7 h8
          generalize b[stop b].toNat = x at hx h2 ⊢
          have hlv : l = 1 ∨ l = 2 ∨ l = 3 ∨ l = 4 ∨ l = 5 ∨ l = 6 ∨ l = 7 := by omega
          unfold top
          rcases hlv with rfl | rfl | rfl | rfl | rfl | rfl | rfl <;> simp at h2 ⊢ <;> split <;> omega
    obtain ⟨q, k1, k2, k3⟩ := key
    generalize 128 ^ stop b = P at hv k1
    generalize 2 ^ q = Q at k1 k2 k3
    generalize top b[stop b].toNat = T at k2 k3
    generalize val (List.take (stop b) b) = V at hv
    have m1 : (P : Int) * -(Q : Int) ≤ P * T := Int.mul_le_mul_of_nonneg_left k2 (by omega)
    have m2 : (P : Int) * T ≤ P * (Q - 1) := Int.mul_le_mul_of_nonneg_left (by omega) (by omega)
    rw [Int.mul_neg] at m1
    rw [Int.mul_sub] at m2
    have m3 : (P : Int) * Q ≤ ((2 ^ (bits - 1) : Nat) : Int) := by rw [← Int.natCast_mul]; exact Int.ofNat_le.2 k1
    omega
  · omega

end Go.Proofs.Leb

namespace Go.Proofs.Ytkfohickmdkplaa
open Go.RowKit Go.Proofs.Leb Go.Proofs.Own

/-- the byte type's row -/
theorem info5 : (Try.prog.info? 5).map (fun i => (i.zero, i.size, i.bytes)) = some (some (.int .u8 0), 1, 1) := by kernel_rfl

/-- a byte, as a cell -/
def cb (x : UInt8) : Value := .int .u8 x.toNat
/-- v is a row of bytes that the call owns -/
def Bytes (w : World) (v : Value) (bs : List UInt8) : Prop := w.ownsRow 0 5 1 v bs.length (bs.map cb)

theorem Bytes.one {w : World} {v : Value} {bs : List UInt8} (n : Int) (x : UInt8) (h : n = x.toNat) (hw : w.ownsRow 0 5 1 v (bs.length + 1) (bs.map cb ++ [.int .u8 n])) : Bytes w v (bs ++ [x]) := by
  subst h
  unfold Bytes
  rw [List.length_append, List.map_append]
  exact hw

theorem or128_fin : ∀ b : Fin 256, b.val ||| 128 = b.val % 128 + 128 := by decide +kernel
theorem or128 (x : Nat) : bits .or .u8 ((x : Int) % 256) 128 = ((x % 128 + 128 : Nat) : Int) := by
  have e : ((x : Int) % 256) = ((x % 256 : Nat) : Int) := by omega
  rw [e]
  have := u8_or_nat (x % 256) 128 (by omega) (by omega)
  rw [show ((128 : Nat) : Int) = 128 from rfl] at this
  rw [this]
  have := or128_fin ⟨x % 256, by omega⟩
  simp only at this
  rw [this]
  congr 1
  omega
theorem or128i (x : Int) : bits .or .u8 (x % 256) 128 = x % 128 + 128 := by
  have h := or128 (x % 256).toNat
  have e : (((x % 256).toNat : Nat) : Int) % 256 = x % 256 := by omega
  rw [e] at h
  rw [h]
  omega
theorem and127i (x : Int) : bits .and .u8 (x % 256) 127 = x % 128 := by
  have e : (x % 256) = (((x % 256).toNat : Nat) : Int) := by omega
  rw [e]
  have h := u8_and_nat (x % 256).toNat 127 (by omega) (by omega)
  rw [show ((127 : Nat) : Int) = 127 from rfl] at h
  rw [h, nat_mask7]
  omega
theorem tmod128 (y : Int) (h : y < 0) : y.tmod 128 = if y % 128 = 0 then 0 else y % 128 - 128 := by
  have e : y.tmod 128 = -((-y).tmod 128) := by rw [Int.neg_tmod, Int.neg_neg]
  rw [e, Int.tmod_eq_emod_of_nonneg (by omega)]
  split <;> omega
theorem tdiv128 (y : Int) : (y - y % 128).tdiv 128 = y / 128 := by
  have e : y - y % 128 = y / 128 * 128 := by omega
  rw [e, Int.mul_tdiv_cancel _ (by decide)]
theorem hid {p : Prop} (h : p) : Hid p := h

/-- a slice of bytes that can be read -/
def Rd (w : World) (v : Value) (bs : List UInt8) : Prop :=
  ∃ a cap, v = .slice a bs.length cap ∧ bs.length ≤ cap ∧ (a = none → cap = 0) ∧ (bs ≠ [] → ∃ b o, a = some ⟨b, o, none⟩ ∧ ∀ i (h : i < bs.length), w.cell? ⟨b, o + i, none⟩ = some (cb bs[i]))

theorem Rd.shape {w : World} {v : Value} {bs : List UInt8} (h : Rd w v bs) : ∃ a cap, v = .slice a bs.length cap := by
  obtain ⟨a, cap, h, -⟩ := h
  exact ⟨a, cap, h⟩
theorem Rd.nil (w : World) : Rd w (.slice none 0 0) [] := ⟨none, 0, rfl, Nat.le_refl _, fun _ => rfl, fun h => absurd rfl h⟩
theorem Rd.upd {S : Nat → Prop} {w w' : World} {v : Value} {bs : List UInt8} (h : Rd w v bs) (hu : Upd S w w') (hn : ∀ k, v.ownBlock = some k → ¬ S k) : Rd w' v bs := by
  obtain ⟨a, cap, rfl, h1, h2, h3⟩ := h
  refine ⟨a, cap, rfl, h1, h2, fun hb => ?_⟩
  obtain ⟨b, o, rfl, hc⟩ := h3 hb
  exact ⟨b, o, rfl, fun i hi => hu.cell (hc i hi) (hn b rfl)⟩
theorem Rd.new {w w' : World} {v : Value} {bs : List UInt8} (h : Rd w v bs) (hu : New w w') : Rd w' v bs := h.upd hu (fun _ _ h => h)
theorem Bytes.rd {w : World} {v : Value} {bs : List UInt8} (h : Bytes w v bs) : Rd w v bs := by
  obtain ⟨h1, h2⟩ := h
  rcases h2 with ⟨rfl, hn⟩ | ⟨g, cap, cur, rfl, _, hg, hn, hm, hs, ht⟩
  · have : bs = [] := List.eq_nil_of_length_eq_zero hn
    subst this
    exact Rd.nil w
  · refine ⟨_, cap, rfl, hn, (fun h => by cases h), fun _ => ⟨g, 0, rfl, fun i hi => ?_⟩⟩
    have hown : w.ownsRow 0 5 1 (.slice (some ⟨g, 0, none⟩) bs.length cap) bs.length (bs.map cb) := ⟨h1, .inr ⟨g, cap, cur, rfl, Nat.zero_le _, hg, hn, hm, hs, ht⟩⟩
    have := hown.cells (g := g) rfl i (cb bs[i]) (by simp [hi])
    rwa [Addr.add_lit] at this
theorem Bytes.upd {S : Nat → Prop} {w w' : World} {v : Value} {bs : List UInt8} (h : Bytes w v bs) (hu : Upd S w w') (hn : ∀ k, v.ownBlock = some k → ¬ S k) : Bytes w' v bs := ownsRow_upd h hu hn
theorem Bytes.new {w w' : World} {v : Value} {bs : List UInt8} (h : Bytes w v bs) (hu : New w w') : Bytes w' v bs := ownsRow_new h hu
theorem Bytes.nil (w : World) : Bytes w (.slice none 0 0) [] := World.ownsRow_nil w 0 _ 1
/-- '[]byte{}' -/
theorem Bytes.made (w : World) : Bytes (w.alloc (.cells #[] 5)) (.slice (some ⟨w.heap.size, 0, none⟩) 0 0) [] :=
  World.ownsRow_made w #[] 0 (Nat.zero_le _) (Nat.zero_le _) rfl

/-- append of one byte, at a goal that is held -/
theorem appB {ops : Array Oper} {rest : List Oper} {o : Oper} {a : Act} {Q : Exit → Act → World → Prop} {w : World} (s x : Operand) (u : UInt8) {v : Value} {d : List UInt8} {n : Int}
    (hb : Bytes w v d) (hn : n = u.toNat) (hl : d.length ≤ 1000000000) (hgd : o.guard = none) (ho : o.op = .call { callee := .builtin .append, args := #[s, x], argTypes := #[22, 22] })
    (hs : a.eval s = v) (hx : a.eval x = .slice (some ⟨w.heap.size, 0, none⟩) 1 1)
    (h : ∀ v' w', Bytes w' v' (d ++ [u]) → Adds w w' v v' → wpList Try.prog ops Q rest (a.put o.dst v') w') :
    Hold (wpList Try.prog ops Q (o :: rest) a (w.alloc (.cells #[.int .u8 n] 5))) :=
  held_append1 22 5 1 (.int .u8 0) info5 Try.underlying22 rfl s x hgd ho 0 v _ _ hs hb (.int .u8 n) hx rfl (by unfold maxLen; omega) (by omega) (Nat.zero_le _)
    fun v' w' h1 h2 => h v' w' (Bytes.one n u hn h1) h2

theorem cb_one (x : UInt8) : (cb x).oneCell' = true := rfl
/-- append of bytes: the run -/
theorem runR {w : World} {sv v : Value} {ds bs : List UInt8} (ty : TypeId)
    (hb : Bytes w sv ds) (hr : Rd w v bs) (hl : ds.length + bs.length ≤ 1000000000) :
    ∃ v' w', (Builtin.append_ #[22, 22] ty #[sv, v]).run Try.prog w = .ok v' w' ∧ Bytes w' v' (ds ++ bs) ∧ Adds w w' sv v' := by
  obtain ⟨ao, cap, rfl, h1, h2, h3⟩ := hr
  obtain ⟨i, hi, hz, hsz, hby⟩ := info_parts info5
  cases ao with
  | none =>
    have hc := h2 rfl
    subst hc
    have : bs = [] := List.eq_nil_of_length_eq_zero (by omega)
    subst this
    have hr := run_append_owned_none (P := Try.prog) w 0 22 ty 5 i 1 Try.underlying22 hi sv ds.length (ds.map cb) hb
    exact ⟨sv, w, hr, by simpa using hb, Adds.refl w sv⟩
  | some ad =>
    have hnews : ∀ j u, (bs.map cb)[j]? = some u → w.cell? (ad.add j) = some u := by
      intro j u hj
      have hlt : j < bs.length := by
        have := (List.getElem?_eq_some_iff.1 hj).1
        simpa using this
      obtain ⟨b, o', e, hc⟩ := h3 (by intro e; subst e; simp at hlt)
      cases e
      have hu : u = cb bs[j] := by
        simp only [List.getElem?_map, List.getElem?_eq_getElem hlt, Option.map_some, Option.some.injEq] at hj
        exact hj.symm
      subst hu
      rw [Addr.add_lit]
      exact hc j hlt
    have hone : ∀ u ∈ bs.map cb, u.oneCell' = true := by
      intro u hu
      simp only [List.mem_map] at hu
      obtain ⟨x, _, rfl⟩ := hu
      rfl
    obtain ⟨v', w', hr, ho, ha⟩ := run_append_adds (P := Try.prog) w 22 ty 5 i (.int .u8 0) 1 1 Try.underlying22 hi hz hsz hby rfl (by decide) 0 sv ds.length (ds.map cb) hb
      ad bs.length cap (bs.map cb) (by simp) hnews hone (by unfold maxLen; omega) (by omega) (Nat.zero_le _)
    refine ⟨v', w', hr, ?_, ha⟩
    unfold Bytes
    rw [List.length_append, List.map_append]
    exact ho

/-- append of bytes, at a goal that is held -/
theorem appR {ops : Array Oper} {rest : List Oper} {o : Oper} {a : Act} {Q : Exit → Act → World → Prop} {w : World} (s x : Operand) {sv v : Value} {ds bs : List UInt8}
    (hb : Bytes w sv ds) (hr : Rd w v bs) (hl : ds.length + bs.length ≤ 1000000000) (hgd : o.guard = none) (ho : o.op = .call { callee := .builtin .append, args := #[s, x], argTypes := #[22, 22] })
    (hs : a.eval s = sv) (hx : a.eval x = v)
    (h : ∀ v' w', Bytes w' v' (ds ++ bs) → Adds w w' sv v' → wpList Try.prog ops Q rest (a.put o.dst v') w') :
    Hold (wpList Try.prog ops Q (o :: rest) a w) := by
  obtain ⟨v', w', hr, ho', ha⟩ := runR o.type hb hr hl
  refine wpList_plain hgd fun K hK => ?_
  unfold Oper.wp execOp
  simp only [ho, resolve, invoke, builtin, Sem.run_bind, Sem.run_pure, Result.andThen_ok, List.map_toArray, List.map_cons, List.map_nil, hs, hx, hr]
  exact hK _ _ (h v' w' ho' ha)

/-- append of bytes, as one step of a region that draws its order -/
theorem stepR {ops : Array Oper} {o : Oper} {a : Act} {w : World} {K : Act → World → Prop} {Q : Exit → Act → World → Prop} {E : Prop} (s x : Operand) {sv v : Value} {ds bs : List UInt8}
    (hb : Bytes w sv ds) (hr : Rd w v bs) (hl : ds.length + bs.length ≤ 1000000000) (hw : Region.wanted o (yielded ops a.tmps) = true)
    (ho : o.op = .call { callee := .builtin .append, args := #[s, x], argTypes := #[22, 22] }) (hs : a.eval s = sv) (hx : a.eval x = v)
    (h : ∀ v' w', Bytes w' v' (ds ++ bs) → Adds w w' sv v' → K (a.put o.dst v') w') :
    if Region.wanted o (yielded ops a.tmps) = true then Oper.wp Try.prog o a w K Q else E := by
  obtain ⟨v', w', hr, ho', ha⟩ := runR o.type hb hr hl
  rw [if_pos hw]
  unfold Oper.wp execOp
  simp only [ho, resolve, invoke, builtin, Sem.run_bind, Sem.run_pure, Result.andThen_ok, List.map_toArray, List.map_cons, List.map_nil, hs, hx, hr]
  exact h v' w' ho' ha

/-- what comes back is a new row -/
def PostN (w : World) (bs : List UInt8) (e : Ending) (w' : World) : Prop := ∃ v', e = .returned v' ∧ Bytes w' v' bs ∧ New w w' ∧ Fresh w v'

def Post (w : World) (v : Value) (bs : List UInt8) (e : Ending) (w' : World) : Prop := ∃ v', e = .returned v' ∧ Bytes w' v' bs ∧ Adds w w' v v'

end Go.Proofs.Ytkfohickmdkplaa

namespace Go.Proofs.Own
open Go Go.RowKit

theorem heap_at (w : World) (o : Obj) (k : Nat) : (w.alloc o).heap[k]? = if k = w.heap.size then some o else w.heap[k]? := by
  show (w.heap.push o)[k]? = _
  rw [Array.getElem?_push]

theorem hp_new {w : World} {o : Obj} {k : Nat} (h : k = w.heap.size) : (w.alloc o).heap[k]? = some o := by rw [heap_at, if_pos h]
theorem hp_old {w : World} {o x : Obj} {k : Nat} (h : k < w.heap.size) (hw : w.heap[k]? = some x) : (w.alloc o).heap[k]? = some x := by rw [heap_at, if_neg (by omega)]; exact hw

/-- a block of two cells -/
def Blk (w : World) (g : Nat) (a b : Value) (t : TypeId) : Prop := w.heap[g]? = some (.cells #[a, b] t)
theorem Blk.of {w w' : World} {a b : Value} {t : TypeId} (h : New (w.alloc (.cells #[a, b] t)) w') : Blk w' w.heap.size a b t :=
  (h.block w.heap.size (by simp) (fun h => h)).trans (hp_new rfl)
theorem Blk.ofDrew {w w' : World} {a b : Value} {t : TypeId} (h : New (w.alloc (.cells #[a, b] t)).drew w') : Blk w' w.heap.size a b t :=
  (h.block w.heap.size (by simp [World.drew]) (fun h => h)).trans (hp_new rfl)
theorem Blk.new {w w' : World} {g : Nat} {a b : Value} {t : TypeId} (h : Blk w g a b t) (hn : New w w') : Blk w' g a b t :=
  (hn.block g (Array.getElem?_eq_some_iff.1 h).1 (fun h => h)).trans h
theorem Blk.c0 {w : World} {g : Nat} {a b : Value} {t : TypeId} (h : Blk w g a b t) : w.cell? ⟨g, 0, none⟩ = some a := by
  rw [cell_of_row _ g 0 _ t (0, 0) h]; rfl
theorem Blk.c1 {w : World} {g : Nat} {a b : Value} {t : TypeId} (h : Blk w g a b t) : w.cell? ⟨g, 1, none⟩ = some b := by
  rw [cell_of_row _ g 1 _ t (0, 0) h]; rfl
theorem Blk.f {w : World} {g : Nat} {a b : Value} {t : TypeId} (h : Blk w g a b t) (i : Nat) : w.frozen? ⟨g, i, none⟩ = false := by
  unfold Blk at h
  simp [World.frozen?, h]

theorem Blk.put {w : World} {g : Nat} {a b x y : Value} {t : TypeId} (h : Blk w g a b t) : Blk ((w.setCell ⟨g, 0, none⟩ x).setCell ⟨g, 1, none⟩ y) g x y t := by
  unfold Blk at h ⊢
  simp [World.setCell, Array.getElem?_modify, h]
theorem Blk.mk {w : World} {x y : Value} {t : TypeId} : Blk (w.alloc (.cells #[x, y] t)) w.heap.size x y t := hp_new rfl
theorem Blk.put0 {w : World} {g : Nat} {a b x y : Value} {t : TypeId} (h : Blk w g a b t) : ((w.setCell ⟨g, 0, none⟩ x).setCell ⟨g, 1, none⟩ y).cell? ⟨g, 0, none⟩ = some x := by
  have hne : (⟨g, 1, none⟩ : Addr) ≠ ⟨g, 0, none⟩ := by intro e; cases e
  exact (World.cell?_setCell_other _ _ _ _ hne).trans (World.cell?_setCell_same _ _ _ h.c0)
theorem Blk.put1 {w : World} {g : Nat} {a b x y : Value} {t : TypeId} (h : Blk w g a b t) : ((w.setCell ⟨g, 0, none⟩ x).setCell ⟨g, 1, none⟩ y).cell? ⟨g, 1, none⟩ = some y := by
  have hne : (⟨g, 0, none⟩ : Addr) ≠ ⟨g, 1, none⟩ := by intro e; cases e
  exact World.cell?_setCell_same _ _ _ ((World.cell?_setCell_other _ _ _ _ hne).trans h.c1)

theorem Blk.lt {w : World} {g : Nat} {a b : Value} {t : TypeId} (h : Blk w g a b t) : g < w.heap.size := (Array.getElem?_eq_some_iff.1 h).1
theorem absN {S W : World} (_ : New S W) {p : Prop} (h : ∀ g, W.heap.size = g → S.heap.size ≤ W.heap.size → p) (hs : S.heap.size ≤ W.heap.size) : p := h _ rfl hs
/-- one more block, as a step of a region that draws its order: the world gets a name -/
theorem allocStep {K : Act → World → Prop} {a : Act} {S W : World} {x y : Value} {t : TypeId} (hn : New S W)
    (h : ∀ W2, New W W2 → New S W2 → Blk W2 W.heap.size x y t → K a W2) : K a (W.alloc (.cells #[x, y] t)) :=
  h _ ((Upd.refl _ _).alloc _) (hn.alloc _) Blk.mk
/-- a block of two cells written, likewise -/
theorem storeStep {K : Act → World → Prop} {a : Act} {S W : World} {g : Nat} {u v x y : Value} {t : TypeId} (hn : New S W) (hz : Blk W g u v t) (hf : S.heap.size ≤ g)
    (h : ∀ W2, New S W2 → Blk W2 g x y t → (∀ g' a b t', g' ≠ g → Blk W g' a b t' → Blk W2 g' a b t') → K a W2) : K a ((W.setCell ⟨g, 0, none⟩ x).setCell ⟨g, 1, none⟩ y) := by
  refine h _ ((hn.setCell (.inl hf) _).setCell (.inl hf) _) (Blk.put hz) ?_
  intro g' a b t' hne hb
  unfold Blk at hb ⊢
  rw [Below.heap_setCell _ _ _ _ hne, Below.heap_setCell _ _ _ _ hne]
  exact hb

/-- append to a row that is owned, as a step of a region that draws its order -/
theorem step_append {P : Program} {ops : Array Oper} {o : Oper} {a : Act} {Q : Exit → Act → World → Prop} {w : World} {K : Act → World → Prop} {E : Prop} (t e : TypeId) (size bytes : Nat) (z : Value)
    (hinfo : (P.info? e).map (fun i => (i.zero, i.size, i.bytes)) = some (some z, size, bytes)) (ht : P.underlying t = some (.slice e)) (hzs : z.cells.size = size) (hsz : 0 < size)
    (s x : Operand) (hwt : Region.wanted o (yielded ops a.tmps) = true) (ho : o.op = .call { callee := .builtin .append, args := #[s, x], argTypes := #[t, t] })
    (base : Nat) (v : Value) (n : Nat) (xs : List Value) (hs : a.eval s = v) (hown : w.ownsRow base e size v n xs)
    (ad : Addr) (m c : Nat) (news : List Value) (hx : a.eval x = .slice (some ad) m c) (hl : news.length = m * size) (hnews : ∀ j u, news[j]? = some u → w.cell? (ad.add j) = some u) (h1 : ∀ u ∈ news, u.oneCell' = true)
    (h63 : n + m ≤ maxLen) (hbytes : (n + m) * bytes ≤ 140737488355328) (hbase : base ≤ w.heap.size)
    (h : ∀ v' w', w'.ownsRow base e size v' (n + m) (xs ++ news) → Adds w w' v v' → K (a.put o.dst v') w') :
    if Region.wanted o (yielded ops a.tmps) = true then Oper.wp P o a w K Q else E := by
  obtain ⟨i, hi, h2, h3, h4⟩ := info_parts hinfo
  obtain ⟨v', w', hr, hw, ha⟩ := run_append_adds (P := P) w t o.type e i z size bytes ht hi h2 h3 h4 hzs hsz base v n xs hown ad m c news hl hnews h1 h63 hbytes hbase
  rw [if_pos hwt]
  unfold Oper.wp execOp
  simp only [ho, resolve, invoke, builtin, Sem.run_bind, Sem.run_pure, Result.andThen_ok, List.map_toArray, List.map_cons, List.map_nil, hs, hx, hr]
  exact h v' w' hw ha

/-- a whole struct loaded out of its box, as a take of a region -/
theorem load_box {P : Program} {o : Oper} {a : Act} {w : World} {ty : TypeId} {x : Operand} {g : Nat} {t : TypeId} {cs : Array Value} {d : TypeDesc} (ho : o.op = .load ty x)
    (hx : a.eval x = .pointer (some ⟨g, 0, none⟩)) (hg : w.heap[g]? = some (.cells cs t))
    (hu : P.underlying ty = some d) (hd : (match d with | .struct _ | .array _ _ => true | _ => false) = true) (hi : (P.info? ty).map (·.size) = some cs.size) :
    (execOp a.eval o).run P w = .ok (.value (.agg cs)) w := by
  unfold execOp
  simp only [ho, hx, Instr.loadAt, Instr.sureAddr, Sem.run_bind, Sem.run_pure, Result.andThen_ok, run_loadVar_row w g t ty cs (0, 0) d hg hu hd hi]

/-- a function's end: its one result lies in a cell, a struct -/
theorem ret_agg {P : Program} {fn : Func} {Q : Ending → World → Prop} {p : Tmp} {ty : TypeId} {a : Act} {w : World} {d : TypeDesc} (h : fn.results = #[.cell p ty])
    (hu : P.underlying ty = some d) (hd : (match d with | .struct _ | .array _ _ => true | _ => false) = true) (g : Nat) (cs : Array Value) (t : TypeId) (hi : (P.info? ty).map (·.size) = some cs.size)
    (hdef : a.defers = []) (hp : a.tmps.getD p undef = .pointer (some ⟨g, 0, none⟩)) (hg : w.heap[g]? = some (.cells cs t)) (hQ : Q (.returned (.agg cs)) w) : bodyPost P fn Q .ret a w :=
  bodyPost_ret (results_cell_row h a.tmps w g t cs (0, 0) d hp hg hu hd hi) hdef hQ
end Go.Proofs.Own

namespace Go.Proofs.Own
open Go Go.RowKit

/-- what a row of cells represents, in memory that lies in the blocks B -/
abbrev ERep (α : Type) := World → (Nat → Prop) → α → List Value → Prop
structure ERep.Ok {α : Type} (E : ERep α) : Prop where
  upd : ∀ {S : Nat → Prop} {w w' : World} {B : Nat → Prop} {x : α} {row : List Value}, E w B x row → Upd S w w' → (∀ k, B k → ¬ S k) → E w' B x row
  mono : ∀ {w : World} {B B' : Nat → Prop} {x : α} {row : List Value}, E w B x row → (∀ k, B k → B' k) → E w B' x row

/-- a slice of elements of n cells that can be read -/
def RdE {α : Type} (n : Nat) (E : ERep α) (w : World) (B : Nat → Prop) (v : Value) (xs : List α) : Prop :=
  ∃ a cap, v = .slice a xs.length cap ∧ xs.length ≤ cap ∧ (a = none → cap = 0) ∧ (∀ k, v.ownBlock = some k → B k) ∧ (xs ≠ [] → ∃ b o, a = some ⟨b, o, none⟩ ∧
    ∀ i (h : i < xs.length), ∃ row, row.length = n ∧ E w B xs[i] row ∧ ∀ j u, row[j]? = some u → w.cell? ⟨b, o + i * n + j, none⟩ = some u)
section
variable {α : Type} {n : Nat} {E : ERep α} {w w' : World} {B B' : Nat → Prop} {v : Value} {xs : List α}
theorem RdE.shape (h : RdE n E w B v xs) : ∃ a cap, v = .slice a xs.length cap := by
  obtain ⟨a, cap, h, -⟩ := h
  exact ⟨a, cap, h⟩
theorem RdE.own (h : RdE n E w B v xs) : ∀ k, v.ownBlock = some k → B k := by
  obtain ⟨a, cap, rfl, _, _, h, _⟩ := h
  exact h
theorem RdE.nil : RdE n E w B (.slice none 0 0) [] := ⟨none, 0, rfl, Nat.le_refl _, fun _ => rfl, (fun k h => by cases h), fun h => absurd rfl h⟩
theorem RdE.upd {S : Nat → Prop} (hE : E.Ok) (h : RdE n E w B v xs) (hu : Upd S w w') (hS : ∀ k, B k → ¬ S k) : RdE n E w' B v xs := by
  obtain ⟨a, cap, rfl, h1, h2, h3, h4⟩ := h
  refine ⟨a, cap, rfl, h1, h2, h3, fun hx => ?_⟩
  obtain ⟨b, o, rfl, hc⟩ := h4 hx
  refine ⟨b, o, rfl, fun i hi => ?_⟩
  obtain ⟨row, hl, he, hr⟩ := hc i hi
  exact ⟨row, hl, hE.upd he hu hS, fun j u hj => hu.cell (hr j u hj) (hS b (h3 b rfl))⟩
theorem RdE.new (hE : E.Ok) (h : RdE n E w B v xs) (hu : New w w') : RdE n E w' B v xs := h.upd hE hu (fun _ _ h => h)
theorem RdE.mono (hE : E.Ok) (h : RdE n E w B v xs) (hB : ∀ k, B k → B' k) : RdE n E w B' v xs := by
  obtain ⟨a, cap, rfl, h1, h2, h3, h4⟩ := h
  refine ⟨a, cap, rfl, h1, h2, fun k hk => hB k (h3 k hk), fun hx => ?_⟩
  obtain ⟨b, o, rfl, hc⟩ := h4 hx
  refine ⟨b, o, rfl, fun i hi => ?_⟩
  obtain ⟨row, hl, he, hr⟩ := hc i hi
  exact ⟨row, hl, hE.mono he hB, hr⟩
/-- its element at an index -/
theorem RdE.at (h : RdE n E w B v xs) : ∃ a cap, v = .slice a xs.length cap ∧ ∀ i (hi : i < xs.length), ∃ b o row, a = some ⟨b, o, none⟩ ∧ row.length = n ∧ E w B xs[i] row ∧ ∀ j u, row[j]? = some u → w.cell? ⟨b, o + i * n + j, none⟩ = some u := by
  obtain ⟨a, cap, rfl, h1, h2, h3, h4⟩ := h
  refine ⟨a, cap, rfl, fun i hi => ?_⟩
  obtain ⟨b, o, rfl, hc⟩ := h4 (by intro e; subst e; simp at hi)
  obtain ⟨row, hl, he, hr⟩ := hc i hi
  exact ⟨b, o, row, rfl, hl, he, hr⟩
end
/-- an element that holds no memory -/
def Pure {α : Type} (f : α → List Value) : ERep α := fun _ _ x row => row = f x
theorem Pure.ok {α : Type} (f : α → List Value) : (Pure f).Ok := ⟨fun h _ _ => h, fun h _ => h⟩

/-- what one cell represents, in memory that lies in the blocks B -/
abbrev FRep (β : Type) := World → (Nat → Prop) → Value → β → Prop
structure FRep.Ok {β : Type} (F : FRep β) : Prop where
  upd : ∀ {S : Nat → Prop} {w w' : World} {B : Nat → Prop} {u : Value} {y : β}, F w B u y → Upd S w w' → (∀ k, B k → ¬ S k) → F w' B u y
  mono : ∀ {w : World} {B B' : Nat → Prop} {u : Value} {y : β}, F w B u y → (∀ k, B k → B' k) → F w B' u y
theorem FRep.Ok.new {β : Type} {F : FRep β} (h : F.Ok) {w w' : World} {B : Nat → Prop} {u : Value} {y : β} (hf : F w B u y) (hn : New w w') : F w' B u y := h.upd hf hn (fun _ _ h => h)
/-- an element of one cell -/
def E1 {β : Type} (F : FRep β) : ERep β := fun w B x row => ∃ u, row = [u] ∧ F w B u x
theorem E1.ok {β : Type} {F : FRep β} (h : F.Ok) : (E1 F).Ok :=
  ⟨fun ⟨u, e, hf⟩ hu hS => ⟨u, e, h.upd hf hu hS⟩, fun ⟨u, e, hf⟩ hB => ⟨u, e, h.mono hf hB⟩⟩
theorem e1_at {β : Type} {F : FRep β} {w : World} {B : Nat → Prop} {v : Value} {xs : List β} (h : RdE 1 (E1 F) w B v xs) : ∃ a cap, v = .slice a xs.length cap ∧ ∀ i (hi : i < xs.length), ∃ b o u, a = some ⟨b, o, none⟩ ∧ w.cell? ⟨b, o + i, none⟩ = some u ∧ F w B u xs[i] := by
  obtain ⟨a, cap, rfl, hat⟩ := h.at
  refine ⟨a, cap, rfl, fun i hi => ?_⟩
  obtain ⟨b, o, row, rfl, hl, ⟨u, rfl, hf⟩, hc⟩ := hat i hi
  exact ⟨b, o, u, rfl, by simpa using hc 0 _ rfl, hf⟩
/-- where the elements' memory of a slice that is owned lies: anywhere of C but in its own block -/
def Off (C : Nat → Prop) (w : World) (v : Value) : Nat → Prop := fun k => (k < w.heap.size ∧ v.ownBlock ≠ some k) ∧ C k
def OwE {α : Type} (T : TypeId) (n : Nat) (E : ERep α) (C : Nat → Prop) (w : World) (v : Value) (xs : List α) : Prop :=
  ∃ rows : List (List Value), rows.length = xs.length ∧ (∀ r ∈ rows, r.length = n) ∧ (∀ i (h : i < xs.length) (h' : i < rows.length), E w (Off C w v) xs[i] rows[i]) ∧ w.ownsRow 0 T n v xs.length rows.flatten
theorem flatten_at {n : Nat} : ∀ (rows : List (List Value)), (∀ r ∈ rows, r.length = n) → ∀ i (h : i < rows.length) j u, rows[i][j]? = some u → rows.flatten[i * n + j]? = some u
  | [], _, i, h, _, _, _ => absurd h (Nat.not_lt_zero _)
  | r :: rs, hn, 0, _, j, u, hu => by
    simp only [List.getElem_cons_zero] at hu
    rw [List.flatten_cons, Nat.zero_mul, Nat.zero_add, List.getElem?_append_left (List.getElem?_eq_some_iff.1 hu).1]
    exact hu
  | r :: rs, hn, i + 1, h, j, u, hu => by
    have hr := hn r (by simp)
    rw [List.flatten_cons, List.getElem?_append_right (by rw [hr, Nat.succ_mul]; omega), hr]
    have e : (i + 1) * n + j - n = i * n + j := by rw [Nat.succ_mul]; omega
    rw [e]
    exact flatten_at rs (fun r hr => hn r (by simp [hr])) i (by simpa using h) j u (by simpa using hu)
section
variable {α : Type} {T : TypeId} {n : Nat} {E : ERep α} {C : Nat → Prop} {w w' : World} {v v' : Value} {xs : List α}
theorem OwE.nil : OwE T n E C w (.slice none 0 0) [] := ⟨[], rfl, (fun r h => by cases h), (fun i h => absurd h (Nat.not_lt_zero _)), World.ownsRow_nil w 0 T n⟩
theorem OwE.lt (h : OwE T n E C w v xs) : ∀ k, v.ownBlock = some k → k < w.heap.size := by
  obtain ⟨_, _, _, _, h⟩ := h
  exact fun k hk => (World.ownsRow.lt h k hk).2
theorem OwE.shape (h : OwE T n E C w v xs) : ∃ a cap, v = .slice a xs.length cap := by
  obtain ⟨_, _, _, _, _, h⟩ := h
  rcases h with ⟨rfl, h⟩ | ⟨g, cap, _, rfl, _⟩
  · exact ⟨none, 0, by rw [h]⟩
  · exact ⟨_, _, rfl⟩
theorem OwE.upd {S : Nat → Prop} (hE : E.Ok) (h : OwE T n E C w v xs) (hu : Upd S w w') (hS : ∀ k, k < w.heap.size → C k → ¬ S k) (hv : ∀ k, v.ownBlock = some k → ¬ S k) : OwE T n E C w' v xs := by
  obtain ⟨rows, h1, h2, h3, h4⟩ := h
  refine ⟨rows, h1, h2, fun i hi hi' => ?_, ownsRow_upd h4 hu hv⟩
  exact hE.mono (hE.upd (h3 i hi hi') hu (fun k hk => hS k hk.1.1 hk.2)) (fun k hk => ⟨⟨Nat.lt_of_lt_of_le hk.1.1 hu.size, hk.1.2⟩, hk.2⟩)
theorem OwE.new (hE : E.Ok) (h : OwE T n E C w v xs) (hu : New w w') : OwE T n E C w' v xs := h.upd hE hu (fun _ _ _ h => h) (fun _ _ h => h)
theorem OwE.rd (hE : E.Ok) (h : OwE T n E C w v xs) : RdE n E w (fun k => k < w.heap.size ∧ (C k ∨ v.ownBlock = some k)) v xs := by
  obtain ⟨rows, h1, h2, h3, h4⟩ := h
  have hlt := fun k hk => (World.ownsRow.lt h4 k hk).2
  obtain ⟨h5, h6⟩ := h4
  rcases h6 with ⟨rfl, h7⟩ | ⟨g, cap, cur, rfl, hb, hg, hnc, hcm, hcs, htk⟩
  · have : xs = [] := List.eq_nil_of_length_eq_zero h7
    subst this
    exact RdE.nil
  · refine ⟨_, cap, rfl, hnc, (fun h => by cases h), (fun k hk => ⟨hlt k hk, .inr hk⟩), fun hx => ⟨g, 0, rfl, fun i hi => ?_⟩⟩
    have hi' : i < rows.length := by omega
    refine ⟨rows[i], h2 _ (List.getElem_mem _), hE.mono (h3 i hi hi') (fun k hk => ⟨hk.1.1, .inl hk.2⟩), fun j u hj => ?_⟩
    have hown : w.ownsRow 0 T n (.slice (some ⟨g, 0, none⟩) xs.length cap) xs.length rows.flatten := ⟨h5, .inr ⟨g, cap, cur, rfl, hb, hg, hnc, hcm, hcs, htk⟩⟩
    have := hown.cells (g := g) rfl (i * n + j) u (flatten_at rows h2 i hi' j u hj)
    rw [Addr.add_lit] at this
    rw [Nat.add_assoc]
    exact this
/-- one element more -/
theorem OwE.push (hE : E.Ok) {x : α} {row : List Value} (h1 : OwE T n E C w v xs) (hx : E w (Off C w v) x row) (hl : row.length = n)
    (hrow : ∀ rows : List (List Value), w.ownsRow 0 T n v xs.length rows.flatten → w'.ownsRow 0 T n v' (xs.length + 1) (rows.flatten ++ row)) (ha : Adds w w' v v') : OwE T n E C w' v' (xs ++ [x]) := by
  obtain ⟨rows, r1, r2, r3, r4⟩ := h1
  have hoff : ∀ k, Off C w v k → Off C w' v' k := by
    intro k hk
    refine ⟨⟨Nat.lt_of_lt_of_le hk.1.1 ha.upd.size, ?_⟩, hk.2⟩
    rcases ha.at' with e | ⟨j, e, hj⟩
    · rw [e]; exact hk.1.2
    · rw [e]
      intro he
      cases he
      have := hk.1.1
      omega
  have hstep : ∀ (y : α) (r : List Value), E w (Off C w v) y r → E w' (Off C w' v') y r := fun y r hy => hE.mono (hE.upd hy ha.upd (fun k hk => hk.1.2)) hoff
  refine ⟨rows ++ [row], by simp [r1], ?_, ?_, ?_⟩
  · intro r hr
    simp at hr
    rcases hr with hr | rfl
    · exact r2 r hr
    · exact hl
  · intro i hi hi'
    by_cases h : i < xs.length
    · rw [List.getElem_append_left h, List.getElem_append_left (by omega)]
      exact hstep _ _ (r3 i h (by omega))
    · have e : i = xs.length := by simp at hi; omega
      subst e
      simp only [List.getElem_append_right (Nat.le_refl _), Nat.sub_self, List.getElem_cons_zero]
      simp only [← r1, List.getElem_append_right (Nat.le_refl _), Nat.sub_self, List.getElem_cons_zero]
      exact hstep _ _ hx
  · have := hrow rows r4
    simpa using this
theorem ownsRow_told {w w' : World} {T : TypeId} {n m : Nat} {v v' : Value} {l1 l2 row : List Value} (h2 : w.ownsRow 0 T n v m l2) (h1 : w.ownsRow 0 T n v m l1) (h : w'.ownsRow 0 T n v' (m + 1) (l1 ++ row)) : w'.ownsRow 0 T n v' (m + 1) (l2 ++ row) := by
  have : l2 = l1 := by
    obtain ⟨p1, p2⟩ := h2
    obtain ⟨q1, q2⟩ := h1
    rcases p2 with ⟨rfl, hn⟩ | ⟨g, cap, cur, rfl, _, hg, _, _, _, ht⟩
    · rw [hn] at p1 q1
      rw [Nat.zero_mul] at p1 q1
      rw [List.eq_nil_of_length_eq_zero p1, List.eq_nil_of_length_eq_zero q1]
    · rcases q2 with ⟨e, _⟩ | ⟨g', cap', cur', e, _, hg', _, _, _, ht'⟩
      · cases e
      · cases e
        rw [hg] at hg'
        cases hg'
        rw [← ht, ← ht']
  rw [this]
  exact h
end
section
variable {P : Program} {α : Type}
theorem new_row {w : World} {e : TypeId} {row : List Value} : ∀ j u, row[j]? = some u → (w.alloc (.cells row.toArray e)).cell? ((⟨w.heap.size, 0, none⟩ : Addr).add j) = some u := by
  intro j u hj
  rw [Addr.add_lit, cell_of_row _ w.heap.size (0 + j) _ e (0, 0) (hp_new rfl), Nat.zero_add]
  simpa using hj
/-- append of one element, laid in a block of its own ahead of it: the walk's law at a goal that is held -/
theorem held_appendE {ops : Array Oper} {rest : List Oper} {o : Oper} {a : Act} {Q : Exit → Act → World → Prop} {w : World} {E : ERep α} {C : Nat → Prop} (hE : E.Ok) (t e : TypeId) (size bytes : Nat) (z : Value)
    (hinfo : (P.info? e).map (fun i => (i.zero, i.size, i.bytes)) = some (some z, size, bytes)) (ht : P.underlying t = some (.slice e)) (hzs : z.cells.size = size) (hsz : 0 < size)
    (s x : Operand) (hgd : o.guard = none) (ho : o.op = .call { callee := .builtin .append, args := #[s, x], argTypes := #[t, t] })
    (v : Value) (xs : List α) (hs : a.eval s = v) (hown : OwE e size E C w v xs) (y : α) (row : List Value) (hy : E w (Off C w v) y row)
    (hx : a.eval x = .slice (some ⟨w.heap.size, 0, none⟩) 1 1) (hl : row.length = size) (h1 : ∀ u ∈ row, u.oneCell' = true)
    (h63 : xs.length + 1 ≤ maxLen) (hbytes : (xs.length + 1) * bytes ≤ 140737488355328)
    (h : ∀ v' w', OwE e size E C w' v' (xs ++ [y]) → Adds w w' v v' → wpList P ops Q rest (a.put o.dst v') w') : Hold (wpList P ops Q (o :: rest) a (w.alloc (.cells row.toArray e))) := by
  obtain ⟨rows, r1, r2, r3, r4⟩ := hown
  refine held_append t e size bytes z hinfo ht hzs hsz s x hgd ho 0 v xs.length rows.flatten hs (r4.alloc _) ⟨w.heap.size, 0, none⟩ 1 1 row hx (by omega) new_row h1 h63 hbytes (Nat.zero_le _) ?_
  intro v' w' ho' ha
  have ha' := Adds.ahead ((Upd.refl _ _).alloc _) ha
  exact h v' w' (OwE.push hE ⟨rows, r1, r2, r3, r4⟩ hy hl (fun rows2 h2 => ownsRow_told h2 r4 ho') ha') ha'
/-- the same as a step of a region that draws its order; other steps may lie between the element's block and it -/
theorem step_appendE {ops : Array Oper} {o : Oper} {a : Act} {Q : Exit → Act → World → Prop} {w w0 : World} {K : Act → World → Prop} {E' : Prop} {E : ERep α} {C : Nat → Prop} (hE : E.Ok) (t e : TypeId) (size bytes : Nat) (z : Value)
    (hinfo : (P.info? e).map (fun i => (i.zero, i.size, i.bytes)) = some (some z, size, bytes)) (ht : P.underlying t = some (.slice e)) (hzs : z.cells.size = size) (hsz : 0 < size)
    (s x : Operand) (hwt : Region.wanted o (yielded ops a.tmps) = true) (ho : o.op = .call { callee := .builtin .append, args := #[s, x], argTypes := #[t, t] })
    (v : Value) (xs : List α) (hs : a.eval s = v) (hown : OwE e size E C w v xs) (y : α) (row : List Value) (hy : E w (Off C w v) y row) (hn0 : New (w0.alloc (.cells row.toArray e)) w)
    (hx : a.eval x = .slice (some ⟨w0.heap.size, 0, none⟩) 1 1) (hl : row.length = size) (h1 : ∀ u ∈ row, u.oneCell' = true)
    (h63 : xs.length + 1 ≤ maxLen) (hbytes : (xs.length + 1) * bytes ≤ 140737488355328)
    (h : ∀ v' w', OwE e size E C w' v' (xs ++ [y]) → Adds w w' v v' → K (a.put o.dst v') w') :
    if Region.wanted o (yielded ops a.tmps) = true then Oper.wp P o a w K Q else E' := by
  obtain ⟨rows, r1, r2, r3, r4⟩ := hown
  refine step_append t e size bytes z hinfo ht hzs hsz s x hwt ho 0 v xs.length rows.flatten hs r4 ⟨w0.heap.size, 0, none⟩ 1 1 row hx (by omega) (fun j u hj => hn0.cell (new_row j u hj) (fun h => h)) h1 h63 hbytes (Nat.zero_le _) ?_
  intro v' w' ho' ha
  exact h v' w' (OwE.push hE ⟨rows, r1, r2, r3, r4⟩ hy hl (fun rows2 h2 => ownsRow_told h2 r4 ho') ha) ha
end
end Go.Proofs.Own

namespace Go.Proofs.Ytkfohickmdkplaa
open Go.ChangeShapes Go.WideShapes Go.ChangeAt Go.RowKit Go.Deep Go.WideElems Go.Maps Go.Joins

theorem open_aggs {H : Type} {enc : TypeId × Value → H} {P : Program} {w : World} {base : Nat} {spare : Nat → Bool} {held : Bool} {r : Reach} {b0 : Nat} {t : TypeId} {fs : Array Field} {v : Value} {d : DataW H} {p : List MemPlace}
    (hs : P.underlying t = some (.struct fs)) (hone : oneCellFields P fs = true) (hC : P.cellsOf t = fs.size) (hv : Value.okWide P w r b0 t v) (h : DataW.Trod enc P w base spare held t v d p) :
    ∃ (vs : Array Value) (ys : List (DataW H × List MemPlace)) (n : Nat), v = .agg vs ∧ vs.size = fs.size ∧ ys.length = fs.size ∧ d = .agg (ys.map (·.1)) ∧ p = ys.flatMap (·.2) ∧
      ∀ (i : Nat) (f : Field) (u : Value), fs[i]? = some f → vs[i]? = some u → ∃ y, ys[i]? = some y ∧ DataW.trod enc P w base spare held n f.type [u] = some y := by
  obtain ⟨cs, rfl, hsz⟩ := okWide_struct hs hv
  obtain ⟨fuel, hf⟩ := h
  obtain ⟨xs, n, _, hx, hl, hlen, hg⟩ := DataW.trod_struct hs hf
  refine ⟨cs, xs, n, rfl, hsz.trans hC, hlen, (Prod.mk.inj hx).1, (Prod.mk.inj hx).2, fun i f u hi hu => ?_⟩
  have := hg i f hi
  obtain ⟨o, k⟩ := hone_of hone i f hi
  rw [o, k] at this
  have hi' : i < xs.length := by rw [hlen]; exact (Array.getElem?_eq_some_iff.1 hi).1
  have hu' : cs.toList[i]? = some u := by simpa using hu
  obtain ⟨hl', hu2⟩ := List.getElem?_eq_some_iff.1 hu'
  refine ⟨xs[i], List.getElem?_eq_getElem hi', ?_⟩
  rw [← List.getElem?_eq_getElem hi', ← this]
  congr 1
  show [u] = List.take 1 (List.drop i cs.toList)
  rw [List.drop_eq_getElem_cons hl', hu2]
  rfl
theorem slice_form {H : Type} {enc : TypeId × Value → H} {P : Program} {w : World} {base : Nat} {spare : Nat → Bool} {held : Bool} {t e : TypeId} {fuel : Nat} {cs : List Value} {x : DataW H × List MemPlace} (ht : P.underlying t = some (.slice e))
    (h : DataW.trod enc P w base spare held fuel t cs = some x) : ∃ a len cap, cs = [.slice a len cap] := by
  rcases DataW.trod_slice ht h with ⟨h, _⟩ | ⟨a, len, cap, _, _, _, _, h, _⟩
  · exact ⟨none, 0, 0, h⟩
  · exact ⟨some a, len, cap, h⟩
theorem array12 {α : Type} {vs : Array α} (h : vs.size = 12) : ∃ a b c d e f g h' i j k l, vs = #[a, b, c, d, e, f, g, h', i, j, k, l] := by
  obtain ⟨l⟩ := vs
  match l, h with
  | [a, b, c, d, e, f, g, h', i, j, k, l], _ => exact ⟨a, b, c, d, e, f, g, h', i, j, k, l, rfl⟩
end Go.Proofs.Ytkfohickmdkplaa

namespace Go.Proofs.Ytkfohickmdkplaa
open Go.RowKit Go.Proofs.Own

/-- a law's end: it answers true, and nothing is written that was there -/
def True' (w : World) (e : Ending) (w' : World) : Prop := e = .returned (.bool true) ∧ New w w'

/-- what a slice of numbers that came in holds -/
def IsRow (k : IntKind) (w : World) (a : Option Addr) (len cap : Nat) (zs : List Int) : Prop :=
  (a = none ∧ len = 0 ∧ cap = 0 ∧ zs = []) ∨
  ∃ x, a = some x ∧ len ≤ cap ∧ cap ≤ maxLen ∧ zs.length = cap ∧ (∀ i, i < zs.length → w.cell? (x.add i) = some (.int k (zs.getD i 0))) ∧ ∀ n ∈ zs, (Lit.int k n).wf = true

theorem wf_u8 {n : Int} (h : (Lit.int .u8 n).wf = true) : 0 ≤ n ∧ n < 256 := by
  have e1 : IntKind.u8.min = 0 := by decide
  have e2 : IntKind.u8.max = 255 := by decide
  simp only [Lit.wf, e1, e2, Bool.and_eq_true, decide_eq_true_eq] at h
  omega
theorem wf_u16 {n : Int} (h : (Lit.int .u16 n).wf = true) : 0 ≤ n ∧ n < 65536 := by
  have e1 : IntKind.u16.min = 0 := by decide
  have e2 : IntKind.u16.max = 65535 := by decide
  simp only [Lit.wf, e1, e2, Bool.and_eq_true, decide_eq_true_eq] at h
  omega
theorem wf_u32 {n : Int} (h : (Lit.int .u32 n).wf = true) : 0 ≤ n ∧ n < 4294967296 := by
  have e1 : IntKind.u32.min = 0 := by decide
  have e2 : IntKind.u32.max = 4294967295 := by decide
  simp only [Lit.wf, e1, e2, Bool.and_eq_true, decide_eq_true_eq] at h
  omega
theorem wf_u64 {n : Int} (h : (Lit.int .u64 n).wf = true) : 0 ≤ n ∧ n < 18446744073709551616 := by
  have e1 : IntKind.u64.min = 0 := by decide
  have e2 : IntKind.u64.max = 18446744073709551615 := by decide
  simp only [Lit.wf, e1, e2, Bool.and_eq_true, decide_eq_true_eq] at h
  omega
theorem wf_i64 {n : Int} (h : (Lit.int .i64 n).wf = true) : -9223372036854775808 ≤ n ∧ n ≤ 9223372036854775807 := by
  have e1 : IntKind.i64.min = -9223372036854775808 := by decide
  have e2 : IntKind.i64.max = 9223372036854775807 := by decide
  simp only [Lit.wf, e1, e2, Bool.and_eq_true, decide_eq_true_eq] at h
  omega

theorem rdOfRow {w : World} {a : Option Addr} {len cap : Nat} {zs : List Int} (h : IsRow .u8 w a len cap zs) :
    ∃ bs : List UInt8, Rd w (.slice a len cap) bs ∧ bs.length ≤ 9223372036854775807 := by
  rcases h with ⟨rfl, rfl, rfl, rfl⟩ | ⟨x, rfl, hl, hm, hz, hcell, hwz⟩
  · exact ⟨[], Rd.nil w, by simp⟩
  · have hlen : ((zs.take len).map fun z => UInt8.ofNat z.toNat).length = len := by simp; omega
    refine ⟨(zs.take len).map fun z => UInt8.ofNat z.toNat, ⟨some x, cap, by rw [hlen], by rw [hlen]; exact hl, (fun h => by cases h), fun hne => ?_⟩, ?_⟩
    · have h0 : 0 < len := by
        rw [← hlen]
        exact List.length_pos_iff.mpr hne
      obtain ⟨b, o, s⟩ := x
      have hc := hcell 0 (by omega)
      have hs : s = none := by simpa [Addr.add] using World.cell?_spot hc
      subst hs
      refine ⟨b, o, rfl, fun i hi => ?_⟩
      rw [hlen] at hi
      have hi' : i < zs.length := by omega
      have := hcell i hi'
      have hw := wf_u8 (hwz zs[i] (List.getElem_mem _))
      have e : zs.getD i 0 = zs[i] := by simp [List.getD_eq_getElem?_getD, hi']
      rw [e] at this
      rw [Addr.add_lit] at this
      rw [this]
      simp only [List.getElem_map, List.getElem_take, cb]
      congr 2
      rw [UInt8.toNat_ofNat']
      omega
    · rw [hlen]
      have : maxLen = 9223372036854775807 := by decide
      omega
end Go.Proofs.Ytkfohickmdkplaa

namespace Go.Proofs.Ytkfohickmdkplaa
open Go.RowKit Go.Proofs.Own Go.ChangeShapes Go.WideShapes Go.Deep

/-- no part of a datum takes up more than the reach -/
def Light {H : Type} (P : Program) (t : TypeId) (d : DataW H) : Prop := ∀ n ∈ d.weights P t, n ≤ reachBytes
section
variable {H : Type} {P : Program}
theorem Light.arg {ts : List TypeId} {ds : List (DataW H)} (h : (DataW.weightsEach P ts ds).all (· ≤ reachBytes) = true) {j : Nat} {t : TypeId} {d : DataW H} (ht : ts[j]? = some t) (hd : ds[j]? = some d) : Light P t d := fun n hn => by
  have := List.all_eq_true.1 h n (DataW.weights_mem_each ht hd n hn)
  simpa using this
theorem Light.field {t : TypeId} {fs : Array Field} {parts : List (DataW H)} (hu : P.underlying t = some (.struct fs)) (h : Light P t (.agg parts)) {j : Nat} {f : Field} {d : DataW H} (hf : fs[j]? = some f) (hd : parts[j]? = some d) : Light P f.type d := fun n hn => by
  refine h n ?_
  unfold DataW.weights
  rw [hu]
  exact DataW.weights_mem_each (j := j) (by simp [hf]) hd n hn
theorem mem_all {e : TypeId} : ∀ {ds : List (DataW H)} {d : DataW H}, d ∈ ds → ∀ n ∈ d.weights P e, n ∈ DataW.weightsAll P e ds
  | d0 :: ds, d, h, n, hn => by
    unfold DataW.weightsAll
    rw [List.mem_append]
    rcases List.mem_cons.1 h with rfl | h
    · exact .inl hn
    · exact .inr (mem_all h n hn)
theorem Light.elem {t e : TypeId} {elems spare : List (DataW H)} (hu : P.underlying t = some (.slice e)) (h : Light P t (.slice elems spare)) : (elems.length + spare.length) * P.bytesOf e ≤ reachBytes ∧ ∀ d ∈ elems, Light P e d := by
  unfold Light DataW.weights at h
  rw [hu] at h
  refine ⟨h _ (by simp), fun d hd n hn => h n ?_⟩
  simp only [List.mem_cons, List.mem_append]
  exact .inr (.inl (mem_all hd n hn))
theorem Light.str {t : TypeId} {bytes : List UInt8} (h : Light (H := H) P t (.lit (.string bytes))) : bytes.length ≤ reachBytes := h _ (by simp [DataW.weights])
end
section
variable {H : Type} {enc : TypeId × Value → H} {P : Program} {w : World} {base : Nat} {spare : Nat → Bool} {held : Bool}
/-- a field's cells -/
theorem part {t : TypeId} {fs : Array Field} {fuel : Nat} {cs : List Value} {x : DataW H × List MemPlace} (hu : P.underlying t = some (.struct fs)) (h : DataW.trod enc P w base spare held fuel t cs = some x) (hL : Light P t x.1) (i : Nat) {f : Field} (hf : fs[i]? = some f) :
    ∃ n y, DataW.trod enc P w base spare held n f.type ((cs.drop f.offset).take (P.cellsOf f.type)) = some y ∧ Light P f.type y.1 := by
  obtain ⟨xs, n, _, rfl, _, hlen, hg⟩ := DataW.trod_struct hu h
  have hi : i < xs.length := by rw [hlen]; exact (Array.getElem?_eq_some_iff.1 hf).1
  refine ⟨n, xs[i], (hg i f hf).trans (List.getElem?_eq_getElem hi), ?_⟩
  exact Light.field hu hL hf (by rw [List.getElem?_map, List.getElem?_eq_getElem hi]; rfl)
theorem part1 {t : TypeId} {fs : Array Field} {fuel : Nat} {cs : List Value} {x : DataW H × List MemPlace} (hu : P.underlying t = some (.struct fs)) (h : DataW.trod enc P w base spare held fuel t cs = some x) (hL : Light P t x.1) (i : Nat) {f : Field} (hf : fs[i]? = some f)
    (hc : P.cellsOf f.type = 1) {u : Value} (hv : cs[f.offset]? = some u) : ∃ n y, DataW.trod enc P w base spare held n f.type [u] = some y ∧ Light P f.type y.1 := by
  obtain ⟨n, y, g, l⟩ := part hu h hL i hf
  rw [hc] at g
  obtain ⟨hl, hu2⟩ := List.getElem?_eq_some_iff.1 hv
  rw [List.drop_eq_getElem_cons hl, hu2] at g
  exact ⟨n, y, g, l⟩
theorem partN {t : TypeId} {fs : Array Field} {fuel : Nat} {cs : List Value} {x : DataW H × List MemPlace} (hu : P.underlying t = some (.struct fs)) (h : DataW.trod enc P w base spare held fuel t cs = some x) (hL : Light P t x.1) (i : Nat) {f : Field} (hf : fs[i]? = some f)
    {k : Nat} (hc : P.cellsOf f.type = k) {ds : List Value} (hv : (cs.drop f.offset).take k = ds) : ∃ n y, DataW.trod enc P w base spare held n f.type ds = some y ∧ Light P f.type y.1 := by
  obtain ⟨n, y, g, l⟩ := part hu h hL i hf
  rw [hc, hv] at g
  exact ⟨n, y, g, l⟩
theorem struct_len {t : TypeId} {fs : Array Field} {fuel : Nat} {cs : List Value} {x : DataW H × List MemPlace} (hu : P.underlying t = some (.struct fs)) (h : DataW.trod enc P w base spare held fuel t cs = some x) : cs.length = P.cellsOf t := by
  obtain ⟨xs, n, _, rfl, hl, _, _⟩ := DataW.trod_struct hu h
  exact hl
/-- a slice of whatever elements -/
theorem rdnOf {α : Type} [Inhabited α] (E : ERep α) (Q : α → Prop) {t e : TypeId} {n fuel : Nat} {cs : List Value} {y : DataW H × List MemPlace} (ht : P.underlying t = some (.slice e)) (ce : P.cellsOf e = n) (hn : 0 < n) (hb : 1 ≤ P.bytesOf e)
    (h : DataW.trod enc P w base spare held fuel t cs = some y) (hL : Light P t y.1)
    (hf : ∀ fuel cs x, DataW.trod enc P w base spare held fuel e cs = some x → cs.length = n → Light P e x.1 → ∃ b : α, E w (fun _ => True) b cs ∧ Q b) :
    ∃ v, cs = [v] ∧ ∃ xs : List α, RdE n E w (fun _ => True) v xs ∧ xs.length ≤ reachBytes ∧ ∀ x ∈ xs, Q x := by
  rcases open_slice ht h with ⟨rfl, _⟩ | ⟨a, len, cap, m, k, D, Pl, rfl, _, hl, hm, hmm, hy, hx⟩
  · exact ⟨_, rfl, [], RdE.nil, Nat.zero_le _, fun x h => by cases h⟩
  · have hm2 : len ≤ m := by rw [hmm]; split <;> omega
    rw [hy] at hL
    obtain ⟨hsz, hel⟩ := Light.elem ht hL
    have hlen : len ≤ reachBytes := by
      simp only [List.length_map, List.length_range] at hsz
      have : (len + (m - len)) * 1 ≤ (len + (m - len)) * P.bytesOf e := Nat.mul_le_mul_left _ hb
      omega
    have each : ∀ i, i < len → ∃ q : α × List Value, w.cells? base (a.add (i * P.cellsOf e)) (P.cellsOf e) = some q.2 ∧ E w (fun _ => True) q.1 q.2 ∧ Q q.1 := by
      intro i hi
      obtain ⟨cs', h1, h2⟩ := hx i (by omega)
      have hll := (World.cells?_some h1).2.1
      obtain ⟨b, hb1, hb2⟩ := hf _ _ _ h2 (by rw [hll, ce]) (hel _ (List.mem_map.2 ⟨i, List.mem_range.2 hi, rfl⟩))
      exact ⟨(b, cs'), h1, hb1, hb2⟩
    obtain ⟨q, hq⟩ := choose_lt each
    refine ⟨_, rfl, (List.range len).map fun i => (q i).1, ⟨some a, cap, by simp, by simp; exact hl, (fun h => by cases h), fun _ _ => trivial, fun hne => ?_⟩, by simpa using hlen, ?_⟩
    · have h0 : 0 < len := by
        rcases Nat.eq_zero_or_pos len with h | h
        · subst h; simp at hne
        · exact h
      obtain ⟨b, o, s⟩ := a
      obtain ⟨_, q1, q2⟩ := World.cells?_some (hq 0 h0).1
      obtain ⟨c0, hc0⟩ : ∃ c0, (q 0).2[0]? = some c0 := by
        rw [List.getElem?_eq_getElem (by omega)]
        exact ⟨_, rfl⟩
      have hc := q2 0 (by omega)
      rw [hc0] at hc
      have hs : s = none := by simpa [Addr.add] using World.cell?_spot hc
      subst hs
      refine ⟨b, o, rfl, fun i hi => ?_⟩
      have hi' : i < len := by simpa using hi
      obtain ⟨g0, g1, g2⟩ := hq i hi'
      obtain ⟨_, r1, r2⟩ := World.cells?_some g0
      refine ⟨(q i).2, by omega, by simpa using g1, fun j u hj => ?_⟩
      have hj' : j < n := by
        have := (List.getElem?_eq_some_iff.1 hj).1
        omega
      have := r2 j (by omega)
      rw [Addr.add_lit, Addr.add_lit, ce, hj] at this
      exact this
    · intro z hz
      obtain ⟨i, hi, rfl⟩ := List.mem_map.1 hz
      exact (hq i (List.mem_range.1 hi)).2.2
theorem reach_le : reachBytes ≤ 140737488355328 := by have := reachBytes_lt; omega
end
end Go.Proofs.Ytkfohickmdkplaa

namespace Go.Proofs.Span

/-- is there a number in a range, below 2^bits, with digits that are known? -/
def fit (lo hi low shift left bits : Nat) : Prop := ∃ v, lo ≤ v ∧ v ≤ hi ∧ v < 2 ^ bits ∧ v % 2 ^ shift = low ∧ v / 2 ^ shift < 128 ^ left

/-- the same by one look -/
def look (lo hi low shift left bits : Nat) : Bool :=
  decide (lo ≤ min hi (2 ^ bits - 1)) && decide (low ≤ min hi (2 ^ bits - 1)) &&
    (decide ((if low < lo then (lo - low - 1) / 2 ^ shift + 1 else 0) < 2 ^ (7 * left)) &&
     decide (low + (if low < lo then (lo - low - 1) / 2 ^ shift + 1 else 0) * 2 ^ shift ≤ min hi (2 ^ bits - 1)))

theorem look_fit (lo hi low shift left bits : Nat) (hlow : low < 2 ^ shift) : look lo hi low shift left bits = true ↔ fit lo hi low shift left bits := by
  have hS : 0 < 2 ^ shift := Nat.pow_pos (by decide)
  have hB : 0 < 2 ^ bits := Nat.pow_pos (by decide)
  have hp : (128 : Nat) ^ left = 2 ^ (7 * left) := by rw [Nat.pow_mul]
  unfold look fit
  rw [hp]
  generalize 2 ^ shift = S at *
  generalize 2 ^ bits = B at *
  generalize 2 ^ (7 * left) = L
  simp only [Bool.and_eq_true, decide_eq_true_eq]
  constructor
  · rintro ⟨⟨h1, h2⟩, h3, h4⟩
    split at h3
    · rename_i hlt
      rw [if_pos hlt] at h4
      refine ⟨low + ((lo - low - 1) / S + 1) * S, ?_, by omega, by omega, ?_, ?_⟩
      · have := Nat.div_add_mod (lo - low - 1) S
        have hm := Nat.mod_lt (lo - low - 1) hS
        rw [Nat.add_mul, Nat.mul_comm ((lo - low - 1) / S) S]
        omega
      · rw [Nat.add_mul_mod_self_right]; exact Nat.mod_eq_of_lt hlow
      · rw [Nat.add_mul_div_right _ _ hS, Nat.div_eq_of_lt hlow]; omega
    · rename_i hlt
      rw [if_neg hlt] at h4
      refine ⟨low, by omega, by omega, by omega, Nat.mod_eq_of_lt hlow, ?_⟩
      rw [Nat.div_eq_of_lt hlow]; omega
  · rintro ⟨v, h1, h2, h3, h4, h5⟩
    have hv := Nat.div_add_mod v S
    rw [h4] at hv
    have hle : low ≤ v := by rw [← hv]; exact Nat.le_add_left _ _
    refine ⟨⟨by omega, by omega⟩, ?_⟩
    split
    · rename_i hlt
      have hq : (lo - low - 1) / S < v / S := by
        rw [Nat.div_lt_iff_lt_mul hS, Nat.mul_comm]
        omega
      have hm : ((lo - low - 1) / S + 1) * S ≤ v / S * S := Nat.mul_le_mul_right _ hq
      rw [Nat.mul_comm (v / S) S] at hm
      exact ⟨Nat.lt_of_le_of_lt hq h5, by omega⟩
    · exact ⟨Nat.lt_of_le_of_lt (Nat.zero_le _) h5, by omega⟩

/-! ### counts and sizes, over the integers; 1099511627776 stands for no bound -/
def right (mn mx : Int) : Prop := 0 ≤ mn ∧ mn ≤ mx ∧ mn ≤ 274877906944 ∧ (mx ≤ 274877906944 ∨ 1099511627776 ≤ mx)
def item (mn mx : Int) : Prop := right mn mx ∧ 1 ≤ mn ∧ mn ≤ 31 ∧ (mx ≤ 31 ∨ 1099511627776 ≤ mx)
def has (mn mx n : Int) : Bool := decide (mn ≤ n) && (decide (1099511627776 ≤ mx) || decide (n ≤ mx))
/-- the sum of two greatest counts -/
def most (a b : Int) : Int := if 1099511627776 ≤ a ∨ 1099511627776 ≤ b ∨ 1099511627776 < a + b then 1099511627776 else a + b
/-- a product, 2^40 at most -/
def mul (n m : Int) : Int := if 1099511627776 < n * m then 1099511627776 else n * m
def between (low high : Int) : Int × Int := if min high 4294967295 < max low 0 then (1, 0) else (max low 0, min high 4294967295)
def least (iMax bMax r : Int) : Int := if bMax < 1099511627776 ∧ bMax < r then (if 1099511627776 ≤ iMax then 1 else (r - bMax - 1) / iMax + 1) else 0
def counts (iMin iMax bMin bMax r : Int) : Int × Int :=
  if r < bMin then (1, 0) else between (least iMax bMax r) ((r - bMin) / iMin)
/-- may r bytes be made of n items, and what is behind? -/
def makes (iMin iMax bMin bMax r n : Int) : Bool :=
  let mn := if n ≤ 0 then 0 else mul n iMin
  let mx := if n ≤ 0 then 0 else if 1099511627776 ≤ iMax then 1099511627776 else mul n iMax
  has (mn + bMin) (most mx bMax) r && (decide (r < 1099511627776) || decide (1099511627776 ≤ most mx bMax))
def sizes (oMin oMax bMin bMax r : Int) : Int × Int :=
  if 1099511627776 ≤ r then (if 1099511627776 ≤ bMax then between oMin oMax else (1, 0))
  else between (if 1099511627776 ≤ bMax then oMin else max oMin (r - bMax)) (min oMax (r - bMin))
def parts (oMin oMax bMin bMax r v : Int) : Bool :=
  if has oMin oMax v = false ∨ (r < 1099511627776 ∧ r < v) then false
  else if 1099511627776 ≤ r then decide (1099511627776 ≤ bMax) else has bMin bMax (r - v)

theorem between_in (low high n : Int) (h0 : 0 ≤ n) (h1 : n ≤ 4294967295) : ((between low high).1 ≤ n ∧ n ≤ (between low high).2) ↔ low ≤ n ∧ n ≤ high := by
  unfold between; split <;> simp only <;> omega
theorem between_bounds (low high : Int) (hl : low ≤ 4294967296) : 0 ≤ (between low high).1 ∧ (between low high).1 ≤ 4294967296 ∧ 0 ≤ (between low high).2 ∧ (between low high).2 ≤ 4294967295 ∧
    ((between low high).2 < (between low high).1 → (between low high) = (1, 0)) := by
  unfold between; split
  · simp
  · simp only; refine ⟨by omega, by omega, by omega, by omega, by omega⟩

theorem sizes_parts {oMin oMax bMin bMax r v : Int} (ho : right oMin oMax) (hb : right bMin bMax) (h0 : 0 ≤ r) (h1 : r ≤ 1099511627776) (v0 : 0 ≤ v) (v1 : v ≤ 4294967295) :
    parts oMin oMax bMin bMax r v = true ↔ (sizes oMin oMax bMin bMax r).1 ≤ v ∧ v ≤ (sizes oMin oMax bMin bMax r).2 := by
  obtain ⟨o1, o2, o3, o4⟩ := ho
  obtain ⟨b1, b2, b3, b4⟩ := hb
  have B := fun low high => between_in low high v v0 v1
  have hone : ¬ ((1 : Int) ≤ v ∧ v ≤ 0) := by omega
  have hP : parts oMin oMax bMin bMax r v = true ↔ (oMin ≤ v ∧ (1099511627776 ≤ oMax ∨ v ≤ oMax)) ∧ ¬ (r < 1099511627776 ∧ r < v) ∧
      (if 1099511627776 ≤ r then 1099511627776 ≤ bMax else bMin ≤ r - v ∧ (1099511627776 ≤ bMax ∨ r - v ≤ bMax)) := by
    unfold parts has
    by_cases hc : (decide (oMin ≤ v) && (decide (1099511627776 ≤ oMax) || decide (v ≤ oMax))) = false ∨ r < 1099511627776 ∧ r < v
    · rw [if_pos hc]
      simp only [Bool.and_eq_false_iff, decide_eq_false_iff_not, Bool.or_eq_false_iff] at hc
      constructor
      · intro h; cases h
      · rintro ⟨h1, h2, _⟩; omega
    · rw [if_neg hc]
      simp only [Bool.and_eq_false_iff, decide_eq_false_iff_not, Bool.or_eq_false_iff] at hc
      split
      · simp only [decide_eq_true_eq]; constructor
        · intro h; exact ⟨by omega, by omega, h⟩
        · intro h; exact h.2.2
      · simp only [Bool.and_eq_true, Bool.or_eq_true, decide_eq_true_eq]; constructor
        · intro h; exact ⟨by omega, by omega, h⟩
        · intro h; exact h.2.2
  rw [hP]
  unfold sizes
  by_cases hr : 1099511627776 ≤ r
  · rw [if_pos hr, if_pos hr]
    by_cases hm : 1099511627776 ≤ bMax
    · rw [if_pos hm, B]; omega
    · rw [if_neg hm]; simp only; omega
  · rw [if_neg hr, if_neg hr, B]
    by_cases hm : 1099511627776 ≤ bMax
    · rw [if_pos hm]; omega
    · rw [if_neg hm]; omega

theorem counts_makes {iMin iMax bMin bMax r n : Int} (hi : item iMin iMax) (hb : right bMin bMax) (h0 : 0 ≤ r) (h1 : r ≤ 1099511627776) (n0 : 0 ≤ n) (n1 : n ≤ 4294967295) :
    makes iMin iMax bMin bMax r n = true ↔ (counts iMin iMax bMin bMax r).1 ≤ n ∧ n ≤ (counts iMin iMax bMin bMax r).2 := by
  obtain ⟨⟨i1, i2, i3, i4⟩, i5, i6, i7⟩ := hi
  obtain ⟨b1, b2, b3, b4⟩ := hb
  have hn : 0 ≤ n * iMin := Int.mul_nonneg n0 (by omega)
  have hn' : n * iMin ≤ n * 31 := Int.mul_le_mul_of_nonneg_left i6 n0
  have hq : ∀ d : Int, n ≤ d / iMin ↔ n * iMin ≤ d := fun d => Int.le_ediv_iff_mul_le (by omega)
  have B := fun low high => between_in low high n n0 n1
  have hone : ¬ ((1 : Int) ≤ n ∧ n ≤ 0) := by omega
  -- what is asked, in plain words
  have hM : makes iMin iMax bMin bMax r n = true ↔ n * iMin + bMin ≤ r ∧ (1099511627776 ≤ most (if n ≤ 0 then 0 else if 1099511627776 ≤ iMax then 1099511627776 else mul n iMax) bMax ∨
      (r ≤ most (if n ≤ 0 then 0 else if 1099511627776 ≤ iMax then 1099511627776 else mul n iMax) bMax ∧ r < 1099511627776)) := by
    unfold makes has
    have e : (if n ≤ 0 then 0 else mul n iMin) = n * iMin := by
      unfold mul
      split
      · have : n = 0 := by omega
        subst this; simp
      · rw [if_neg (by omega)]
    simp only [e]
    generalize most (if n ≤ 0 then 0 else if 1099511627776 ≤ iMax then 1099511627776 else mul n iMax) bMax = M
    simp only [Bool.and_eq_true, Bool.or_eq_true, decide_eq_true_eq]
    omega
  rw [hM]
  unfold counts
  by_cases hr : r < bMin
  · rw [if_pos hr]; simp only; omega
  · rw [if_neg hr, B, hq]
    unfold least most mul
    by_cases hE : 1099511627776 ≤ iMax
    · simp only [hE, if_true]
      by_cases hz : n ≤ 0
      · have hz' : n = 0 := by omega
        subst hz'
        simp only [Int.zero_mul, Int.le_refl, if_true] at *
        split <;> split <;> omega
      · simp only [hz, if_false]
        split <;> split <;> omega
    · have hle : iMax ≤ 31 := by omega
      have hm0 : 0 ≤ n * iMax := Int.mul_nonneg n0 (by omega)
      have hm1 : n * iMax ≤ n * 31 := Int.mul_le_mul_of_nonneg_left hle n0
      have hm2 : n * iMin ≤ n * iMax := Int.mul_le_mul_of_nonneg_left i2 n0
      have hu : (r - bMax - 1) / iMax + 1 ≤ n ↔ r - bMax ≤ n * iMax := by
        have := Int.ediv_lt_iff_lt_mul (a := r - bMax - 1) (b := n) (c := iMax) (by omega)
        omega
      simp only [hE, if_false]
      by_cases hz : n ≤ 0
      · have hz' : n = 0 := by omega
        subst hz'
        simp only [Int.zero_mul, Int.le_refl, if_true] at *
        split <;> split <;> omega
      · simp only [hz, if_false]
        rw [if_neg (by omega : ¬ (1099511627776 < n * iMax))]
        split <;> split <;> omega
end Go.Proofs.Span

namespace Go.Proofs.Cur
open Go.Proofs.Leb Go.Proofs.Span

/-- what comes of reading: something, and the place behind it; or it gave up at a place, with an error -/
inductive Out (α : Type) where
  | ok (a : α) (p : Nat)
  | up (p : Nat) (e : Nat)

def Out.bind {α β : Type} (o : Out α) (f : α → Nat → Out β) : Out β := match o with
  | .ok a p => f a p
  | .up p e => .up p e

def rest (lim : Int) (p : Nat) : Int := if lim = -1 then 1099511627776 else lim - p

/-- a place and a limit, as they may be -/
structure Inv (n : Nat) (lim : Int) (p : Nat) : Prop where
  place : p ≤ n
  len : n ≤ 1000000000
  lim : lim = -1 ∨ ((p : Int) ≤ lim ∧ lim ≤ p + 1099511627776)

theorem Inv.rest {n : Nat} {lim : Int} {p : Nat} (h : Inv n lim p) : 0 ≤ rest lim p ∧ rest lim p ≤ 1099511627776 := by
  have := h.lim
  unfold Cur.rest
  split <;> omega
theorem Inv.next {n : Nat} {lim : Int} {p : Nat} (h : Inv n lim p) (hr : Cur.rest lim p ≠ 0) (hp : p < n) : Inv n lim (p + 1) := by
  have h1 := h.lim
  refine ⟨hp, h.len, ?_⟩
  unfold Cur.rest at hr
  split at hr <;> omega

open Classical in
noncomputable def byteO (bs : List UInt8) (lim : Int) (may : UInt8 → Int → Prop) (p : Nat) : Out UInt8 :=
  if rest lim p = 0 then .up p 2
  else if h : p < bs.length then (if may bs[p] (rest lim (p + 1)) then .ok bs[p] (p + 1) else .up p 2)
  else .up p 1

/-- digits from the lowest on, as many as n at most; 'may' is told those that were read -/
noncomputable def numO (bs : List UInt8) (lim : Int) (may : List UInt8 → UInt8 → Int → Prop) : Nat → List UInt8 → Nat → Out (List UInt8)
  | 0, _, p => .up p 2
  | n + 1, ds, p => (byteO bs lim (may ds) p).bind fun x q => if x.toNat < 128 then .ok (ds ++ [x]) q else numO bs lim may n (ds ++ [x]) q

/-- what is left behind some more bytes -/
def behind (r : Int) (j : Nat) : Int := if r < 1099511627776 then r - j else r

/-- may a number come out, of which x is a byte, with so many bytes more at most? -/
def comes (f : Nat → Int → Prop) (x most : Nat) (r : Int) : Prop :=
  if x < 128 then f 0 r else ∃ j, 1 ≤ j ∧ j ≤ most ∧ (j : Int) ≤ r ∧ f j (behind r j)

/-- is there a number of 32 bits that may stand, with digits that are known? -/
def fits (S : Int → Nat → Prop) (low k more : Nat) (r : Int) : Prop := ∃ n, S r n ∧ n < 4294967296 ∧ n % 128 ^ k = low ∧ n / 128 ^ k < 128 ^ more

/-- a digit of a number without a sign -/
def mayU (S : Int → Nat → Prop) (ds : List UInt8) (x : UInt8) (r : Int) : Prop :=
  comes (fun more r => fits S (val (ds ++ [x])) (ds.length + 1) more r) x.toNat (4 - ds.length) r
noncomputable def uintO (bs : List UInt8) (lim : Int) (S : Int → Nat → Prop) (p : Nat) : Out (List UInt8) := numO bs lim (mayU S) 5 [] p

/-- are all bits of a digit from the highest of so many on the same? -/
def alike (x bits : Nat) : Prop := x / 2 ^ (bits - 1) = 0 ∨ x / 2 ^ (bits - 1) = 127 / 2 ^ (bits - 1)
/-- a digit of a number with a sign -/
def mayS (B : Int → Prop) (bits : Nat) (ds : List UInt8) (x : UInt8) (r : Int) : Prop :=
  comes (fun more r => B r ∧ (0 < more ∨ ds.length < (bits - 1) / 7 ∨ alike x.toNat (bits - 7 * ds.length))) x.toNat ((bits - 1) / 7 - ds.length) r
noncomputable def sintO (bs : List UInt8) (lim : Int) (B : Int → Prop) (bits p : Nat) : Out (List UInt8) := numO bs lim (mayS B bits) ((bits - 1) / 7 + 1) [] p

theorem fits_zero {S : Int → Nat → Prop} {low k : Nat} {r : Int} (h : low < 128 ^ k) : fits S low k 0 r ↔ S r low ∧ low < 4294967296 := by
  unfold fits
  constructor
  · rintro ⟨n, h1, h2, h3, h4⟩
    rw [Nat.pow_zero] at h4
    have : n / 128 ^ k = 0 := Nat.lt_one_iff.mp h4
    have e := Nat.div_add_mod n (128 ^ k)
    rw [this, h3] at e
    have : n = low := by omega
    subst this
    exact ⟨h1, h2⟩
  · rintro ⟨h1, h2⟩
    exact ⟨low, h1, h2, Nat.mod_eq_of_lt h, by rw [Nat.div_eq_of_lt h]; exact Nat.pow_pos (by decide)⟩

/-- at last no digit may have one behind it -/
theorem mayU_last {S : Int → Nat → Prop} {ds : List UInt8} {x : UInt8} {r : Int} (h : 4 ≤ ds.length) (hm : mayU S ds x r) : x.toNat < 128 := by
  unfold mayU comes at hm
  split at hm
  · assumption
  · obtain ⟨j, h1, h2, _⟩ := hm; omega
theorem mayS_last {B : Int → Prop} {bits : Nat} {ds : List UInt8} {x : UInt8} {r : Int} (h : (bits - 1) / 7 ≤ ds.length) (hm : mayS B bits ds x r) : x.toNat < 128 := by
  unfold mayS comes at hm
  split at hm
  · assumption
  · obtain ⟨j, h1, h2, _⟩ := hm; omega

/-- the least number from v on that has these lower digits -/
def nextUp (v step low : Nat) : Nat := if v % step ≤ low then v - v % step + low else v - v % step + step + low
theorem nextUp_spec {v step low : Nat} (hs : 0 < step) (hl : low < step) : v ≤ nextUp v step low ∧ nextUp v step low % step = low ∧ ∀ n, v ≤ n → n % step = low → nextUp v step low ≤ n := by
  have e := Nat.div_add_mod v step
  have hm := Nat.mod_lt v hs
  have e2 : v - v % step = step * (v / step) := by omega
  unfold nextUp
  rw [e2]
  refine ⟨?_, ?_, ?_⟩
  · split <;> omega
  · split
    · rw [Nat.mul_add_mod]; exact Nat.mod_eq_of_lt hl
    · rw [show step * (v / step) + step + low = step * (v / step + 1) + low by rw [Nat.mul_add]; omega, Nat.mul_add_mod]; exact Nat.mod_eq_of_lt hl
  · intro n hn hlow
    have en := Nat.div_add_mod n step
    rw [hlow] at en
    split
    · rcases Nat.lt_or_ge (n / step) (v / step) with h | h
      · have := Nat.mul_le_mul_left step (show n / step + 1 ≤ v / step by omega)
        rw [Nat.mul_add] at this
        omega
      · have := Nat.mul_le_mul_left step h
        omega
    · rcases Nat.lt_or_ge (v / step) (n / step) with h | h
      · have := Nat.mul_le_mul_left step (show v / step + 1 ≤ n / step by omega)
        rw [Nat.mul_add] at this
        omega
      · have := Nat.mul_le_mul_left step h
        omega

/-- numbers that are all in a row, from v0 on: there is one with these digits just if the least of these is one -/
theorem fits_row {M : Nat → Prop} {v0 low k more : Nat} (hl : low < 128 ^ k) (h0 : ∀ n, M n → v0 ≤ n) (h1 : ∀ m n, v0 ≤ m → m ≤ n → M n → M m) :
    (∃ n, M n ∧ n % 128 ^ k = low ∧ n / 128 ^ k < 128 ^ more) ↔ nextUp v0 (128 ^ k) low / 128 ^ k < 128 ^ more ∧ M (nextUp v0 (128 ^ k) low) := by
  have hs : 0 < 128 ^ k := Nat.pow_pos (by decide)
  obtain ⟨s1, s2, s3⟩ := nextUp_spec (v := v0) hs hl
  constructor
  · rintro ⟨n, hn, h2, h3⟩
    have hle := s3 n (h0 n hn) h2
    exact ⟨Nat.lt_of_le_of_lt (Nat.div_le_div_right hle) h3, h1 _ n s1 hle hn⟩
  · rintro ⟨h2, h3⟩
    exact ⟨_, h3, s2, h2⟩

/-! ### the document's wants -/

/-- what may follow, at a rest -/
def hasR (mn mx r : Int) : Prop := if 1099511627776 ≤ r then 1099511627776 ≤ mx else 0 ≤ r ∧ mn ≤ r ∧ (1099511627776 ≤ mx ∨ r ≤ mx)

structure Wnt where
  kind : Int
  lo : Nat
  hi : Nat
  i1 : Int
  i2 : Int
  o1 : Int
  o2 : Int
  b1 : Int
  b2 : Int
  picks : List (Nat × Int × Int)

/-- may a number stand ahead of a rest? -/
def Wnt.may (w : Wnt) (r : Int) (n : Nat) : Prop :=
  0 ≤ r ∧ n < 4294967296 ∧ (if w.kind = 0 then w.lo ≤ n ∧ n ≤ w.hi ∧ hasR w.b1 w.b2 r else if w.kind = 1 then makes w.i1 w.i2 w.b1 w.b2 r n = true
    else if w.kind = 2 then parts w.o1 w.o2 w.b1 w.b2 r n = true else ∃ x ∈ w.picks, x.1 = n ∧ hasR x.2.1 x.2.2 r)

/-- is a want as it should be? -/
structure Wnt.Fine (w : Wnt) : Prop where
  lo : w.lo < 18446744073709551616
  hi : w.hi < 18446744073709551616
  item : w.kind = 1 → Span.item w.i1 w.i2
  own : w.kind = 2 → Span.right w.o1 w.o2
  beh : w.kind = 0 ∨ w.kind = 1 ∨ w.kind = 2 → Span.right w.b1 w.b2
  i64 : w.i2 ≤ 9223372036854775807 ∧ w.o2 ≤ 9223372036854775807 ∧ w.b2 ≤ 9223372036854775807

/-- can so many items fill what behind can't? -/
def fills (i2 b2 r : Int) (n : Nat) : Prop :=
  1099511627776 ≤ Span.most (if (n : Int) ≤ 0 then 0 else if 1099511627776 ≤ i2 then 1099511627776 else mul n i2) b2 ∨
    (r < 1099511627776 ∧ r ≤ Span.most (if (n : Int) ≤ 0 then 0 else if 1099511627776 ≤ i2 then 1099511627776 else mul n i2) b2)

theorem fills_mono {i1 i2 b2 r : Int} (hi : item i1 i2) (hb : 0 ≤ b2) {m n : Nat} (h : m ≤ n) (hf : fills i2 b2 r m) : fills i2 b2 r n := by
  obtain ⟨⟨a1, a2, a3, a4⟩, a5, a6, a7⟩ := hi
  have h1 : (m : Int) * i2 ≤ n * i2 := Int.mul_le_mul_of_nonneg_right (by omega) (by omega)
  have h2 : 0 ≤ (m : Int) * i2 := Int.mul_nonneg (by omega) (by omega)
  unfold fills Span.most mul at *
  generalize (m : Int) * i2 = x at *
  generalize (n : Int) * i2 = y at *
  by_cases e : 1099511627776 ≤ i2
  · simp only [e, if_true] at *
    split at hf <;> split <;> (repeat' split at hf) <;> (repeat' split) <;> omega
  · simp only [e, if_false] at *
    split at hf <;> split <;> (repeat' split at hf) <;> (repeat' split) <;> omega

theorem makes_fills {i1 i2 b1 b2 r : Int} {n : Nat} (hi : item i1 i2) (hb : right b1 b2) (h0 : 0 ≤ r) (h1 : r ≤ 1099511627776) (hn : n < 4294967296) :
    makes i1 i2 b1 b2 r n = true ↔ n * i1 + b1 ≤ r ∧ fills i2 b2 r n := by
  obtain ⟨⟨a1, a2, a3, a4⟩, a5, a6, a7⟩ := hi
  obtain ⟨c1, c2, c3, c4⟩ := hb
  have hn0 : 0 ≤ (n : Int) * i1 := Int.mul_nonneg (by omega) (by omega)
  have hn1 : (n : Int) * i1 ≤ n * 31 := Int.mul_le_mul_of_nonneg_left a6 (by omega)
  unfold makes has fills
  have e : (if (n : Int) ≤ 0 then 0 else mul n i1) = n * i1 := by
    unfold mul
    split
    · have : (n : Int) = 0 := by omega
      rw [this]; simp
    · rw [if_neg (by omega)]
  simp only [e]
  generalize Span.most (if (n : Int) ≤ 0 then 0 else if 1099511627776 ≤ i2 then 1099511627776 else mul n i2) b2 = M
  simp only [Bool.and_eq_true, Bool.or_eq_true, decide_eq_true_eq]
  omega

/-- what is found by halves: from v0 on they can, or none can -/
def Half (p : Nat → Prop) (v0 : Nat) : Prop := v0 < 4294967296 ∧ (∀ n, n < v0 → ¬ p n) ∧ (v0 = 4294967295 ∨ p v0)

theorem makes_row {i1 i2 b1 b2 r : Int} {v0 : Nat} (hi : item i1 i2) (hb : right b1 b2) (h0 : 0 ≤ r) (h1 : r ≤ 1099511627776) (h : Half (fills i2 b2 r) v0) :
    (∀ n : Nat, (n < 4294967296 ∧ makes i1 i2 b1 b2 r n = true) → v0 ≤ n) ∧
    (∀ m n : Nat, v0 ≤ m → m ≤ n → (n < 4294967296 ∧ makes i1 i2 b1 b2 r n = true) → (m < 4294967296 ∧ makes i1 i2 b1 b2 r m = true)) := by
  obtain ⟨hv, h2, h3⟩ := h
  have hb2 : 0 ≤ b2 := by obtain ⟨c1, c2, c3, c4⟩ := hb; omega
  have hi1 : 0 ≤ i1 := by obtain ⟨⟨c1, _⟩, _⟩ := hi; exact c1
  constructor
  · rintro n ⟨hn, hm⟩
    rw [makes_fills hi hb h0 h1 hn] at hm
    exact Nat.not_lt.mp fun hlt => h2 n hlt hm.2
  · rintro m n hm hmn ⟨hn, hk⟩
    rw [makes_fills hi hb h0 h1 hn] at hk
    refine ⟨by omega, ?_⟩
    rw [makes_fills hi hb h0 h1 (by omega)]
    have : (m : Int) * i1 ≤ n * i1 := Int.mul_le_mul_of_nonneg_right (by omega) hi1
    refine ⟨by omega, ?_⟩
    rcases h3 with h3 | h3
    · have : m = n := by omega
      subst this
      exact hk.2
    · exact fills_mono hi hb2 hm h3

/-- the least number of a want of the kinds 0 to 2 -/
def Wnt.Least (w : Wnt) (r : Int) (v0 : Nat) : Prop := v0 < 18446744073709551616 ∧ (∀ n, w.may r n → v0 ≤ n) ∧ (∀ m n, v0 ≤ m → m ≤ n → w.may r n → w.may r m)

theorem least0 {w : Wnt} (hf : w.Fine) (hk : w.kind = 0) (r : Int) : w.Least r w.lo := by
  unfold Wnt.Least Wnt.may
  simp only [hk, if_true]
  exact ⟨hf.lo, fun n h => h.2.2.1, fun m n h1 h2 h => ⟨h.1, by omega, h1, by omega, h.2.2.2.2⟩⟩
theorem least1 {w : Wnt} (hf : w.Fine) (hk : w.kind = 1) {r : Int} (h0 : 0 ≤ r) (h1 : r ≤ 1099511627776) {v0 : Nat} (h : Half (fills w.i2 w.b2 r) v0) : w.Least r v0 := by
  obtain ⟨a, b⟩ := makes_row (hf.item hk) (hf.beh (.inr (.inl hk))) h0 h1 h
  unfold Wnt.Least Wnt.may
  have e : ¬ w.kind = 0 := by omega
  simp only [hk, if_true, show ¬ (1 : Int) = 0 by decide, if_false]
  refine ⟨by have := h.1; omega, fun n h => a n ⟨h.2.1, h.2.2⟩, fun m n h1 h2 h => ?_⟩
  have := b m n h1 h2 ⟨h.2.1, h.2.2⟩
  exact ⟨h.1, this.1, this.2⟩
def least2 (w : Wnt) (r : Int) : Nat := (if 1099511627776 ≤ w.b2 ∨ 1099511627776 ≤ r ∨ r - w.b2 < w.o1 then w.o1 else r - w.b2).toNat
theorem least2_ok {w : Wnt} (hf : w.Fine) (hk : w.kind = 2) {r : Int} (h0 : 0 ≤ r) (h1 : r ≤ 1099511627776) : w.Least r (least2 w r) := by
  have ho := hf.own hk
  have hb := hf.beh (.inr (.inr hk))
  have H := fun v : Nat => fun hv : v < 4294967296 => sizes_parts (v := v) ho hb h0 h1 (by omega) (by omega)
  obtain ⟨o1, o2, o3, o4⟩ := ho
  obtain ⟨b1, b2, b3, b4⟩ := hb
  unfold Wnt.Least Wnt.may least2
  simp only [hk, show ¬ (2 : Int) = 0 by decide, show ¬ (2 : Int) = 1 by decide, if_false, if_true]
  have hS : ∀ v : Nat, v < 4294967296 → (parts w.o1 w.o2 w.b1 w.b2 r v = true ↔ (if 1099511627776 ≤ r then 1099511627776 ≤ w.b2 ∧ w.o1 ≤ v ∧ (v : Int) ≤ w.o2 else
      (if 1099511627776 ≤ w.b2 then w.o1 else max w.o1 (r - w.b2)) ≤ v ∧ (v : Int) ≤ min w.o2 (r - w.b1))) := by
    intro v hv
    rw [H v hv]
    have B := fun low high => between_in low high (v : Int) (by omega) (by omega)
    unfold sizes
    split
    · split
      · rw [B]; omega
      · simp only; omega
    · rw [B]
  refine ⟨by split <;> omega, ?_, ?_⟩
  · rintro n ⟨-, hn, hp⟩
    rw [hS n hn] at hp
    split at hp
    · split <;> omega
    · split at hp <;> split <;> omega
  · rintro m n h2 h3 ⟨-, hn, hp⟩
    rw [hS n hn] at hp
    refine ⟨h0, by omega, ?_⟩
    rw [hS m (by omega)]
    split at hp
    · rename_i hr
      rw [if_pos hr]
      split at h2 <;> omega
    · rename_i hr
      rw [if_neg hr]
      split at hp <;> rename_i hc
      · rw [if_pos hc]; split at h2 <;> omega
      · rw [if_neg hc]; split at h2 <;> omega

/-- a want of the kinds 0 to 2: what comes, by the least one -/
theorem fits_least {w : Wnt} {r : Int} {v0 low k more : Nat} (hl : low < 128 ^ k) (h : w.Least r v0) :
    fits w.may low k more r ↔ nextUp v0 (128 ^ k) low / 128 ^ k < 128 ^ more ∧ w.may r (nextUp v0 (128 ^ k) low) := by
  rw [← fits_row hl h.2.1 h.2.2]
  unfold fits
  constructor
  · rintro ⟨n, h1, h2, h3, h4⟩; exact ⟨n, h1, h3, h4⟩
  · rintro ⟨n, h1, h3, h4⟩; exact ⟨n, h1, h1.2.1, h3, h4⟩
end Go.Proofs.Cur
