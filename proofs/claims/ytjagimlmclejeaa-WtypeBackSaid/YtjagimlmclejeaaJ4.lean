/- Parts. -/
import Derived.Test.YtjagimlmclejeaaChecked
import Derived.Test.YtjagimlmclejeaaJ0
import Derived.Test.YtjagimlmclejeaaJ3
namespace Go.Proofs.Ytjagimlmclejeaa
open Go.RowKit Go.Proofs.Leb Go.Proofs.Own

/-- the byte type's row -/
theorem info5 : (Try.prog.info? 5).map (fun i => (i.zero, i.size, i.bytes)) = some (some (.int .u8 0), 1, 1) := by kernel_rfl

/-- a byte, as a cell -/
def cb (x : UInt8) : Value := .int .u8 x.toNat
/-- v is a row of bytes that the call owns -/
def Bytes (w : World) (v : Value) (bs : List UInt8) : Prop := w.ownsRow 0 5 1 v bs.length (bs.map cb)

theorem Bytes.one {w : World} {v : Value} {bs : List UInt8} (n : Int) (x : UInt8) (h : n = x.toNat) (hw : w.ownsRow 0 5 1 v (bs.length + 1) (bs.map cb ++ [.int .u8 n])) : Bytes w v (bs ++ [x]) := by
  subst h
  unfold Bytes
  rw [List.length_append, List.map_append]
  exact hw

theorem or128_fin : ∀ b : Fin 256, b.val ||| 128 = b.val % 128 + 128 := by decide +kernel
theorem or128 (x : Nat) : bits .or .u8 ((x : Int) % 256) 128 = ((x % 128 + 128 : Nat) : Int) := by
  have e : ((x : Int) % 256) = ((x % 256 : Nat) : Int) := by omega
  rw [e]
  have := u8_or_nat (x % 256) 128 (by omega) (by omega)
  rw [show ((128 : Nat) : Int) = 128 from rfl] at this
  rw [this]
  have := or128_fin ⟨x % 256, by omega⟩
  simp only at this
  rw [this]
  congr 1
  omega
theorem or128i (x : Int) : bits .or .u8 (x % 256) 128 = x % 128 + 128 := by
  have h := or128 (x % 256).toNat
  have e : (((x % 256).toNat : Nat) : Int) % 256 = x % 256 := by omega
  rw [e] at h
  rw [h]
  omega
theorem and127i (x : Int) : bits .and .u8 (x % 256) 127 = x % 128 := by
  have e : (x % 256) = (((x % 256).toNat : Nat) : Int) := by omega
  rw [e]
  have h := u8_and_nat (x % 256).toNat 127 (by omega) (by omega)
  rw [show ((127 : Nat) : Int) = 127 from rfl] at h
  rw [h, nat_mask7]
  omega
theorem tmod128 (y : Int) (h : y < 0) : y.tmod 128 = if y % 128 = 0 then 0 else y % 128 - 128 := by
  have e : y.tmod 128 = -((-y).tmod 128) := by rw [Int.neg_tmod, Int.neg_neg]
  rw [e, Int.tmod_eq_emod_of_nonneg (by omega)]
  split <;> omega
theorem tdiv128 (y : Int) : (y - y % 128).tdiv 128 = y / 128 := by
  have e : y - y % 128 = y / 128 * 128 := by omega
  rw [e, Int.mul_tdiv_cancel _ (by decide)]
theorem hid {p : Prop} (h : p) : Hid p := h

/-- a slice of bytes that can be read -/
def Rd (w : World) (v : Value) (bs : List UInt8) : Prop :=
  ∃ a cap, v = .slice a bs.length cap ∧ bs.length ≤ cap ∧ (a = none → cap = 0) ∧ (bs ≠ [] → ∃ b o, a = some ⟨b, o, none⟩ ∧ ∀ i (h : i < bs.length), w.cell? ⟨b, o + i, none⟩ = some (cb bs[i]))

theorem Rd.shape {w : World} {v : Value} {bs : List UInt8} (h : Rd w v bs) : ∃ a cap, v = .slice a bs.length cap := by
  obtain ⟨a, cap, h, -⟩ := h
  exact ⟨a, cap, h⟩
theorem Rd.nil (w : World) : Rd w (.slice none 0 0) [] := ⟨none, 0, rfl, Nat.le_refl _, fun _ => rfl, fun h => absurd rfl h⟩
theorem Rd.upd {S : Nat → Prop} {w w' : World} {v : Value} {bs : List UInt8} (h : Rd w v bs) (hu : Upd S w w') (hn : ∀ k, v.ownBlock = some k → ¬ S k) : Rd w' v bs := by
  obtain ⟨a, cap, rfl, h1, h2, h3⟩ := h
  refine ⟨a, cap, rfl, h1, h2, fun hb => ?_⟩
  obtain ⟨b, o, rfl, hc⟩ := h3 hb
  exact ⟨b, o, rfl, fun i hi => hu.cell (hc i hi) (hn b rfl)⟩
theorem Rd.new {w w' : World} {v : Value} {bs : List UInt8} (h : Rd w v bs) (hu : New w w') : Rd w' v bs := h.upd hu (fun _ _ h => h)
theorem Bytes.rd {w : World} {v : Value} {bs : List UInt8} (h : Bytes w v bs) : Rd w v bs := by
  obtain ⟨h1, h2⟩ := h
  rcases h2 with ⟨rfl, hn⟩ | ⟨g, cap, cur, rfl, _, hg, hn, hm, hs, ht⟩
  · have : bs = [] := List.eq_nil_of_length_eq_zero hn
    subst this
    exact Rd.nil w
  · refine ⟨_, cap, rfl, hn, (fun h => by cases h), fun _ => ⟨g, 0, rfl, fun i hi => ?_⟩⟩
    have hown : w.ownsRow 0 5 1 (.slice (some ⟨g, 0, none⟩) bs.length cap) bs.length (bs.map cb) := ⟨h1, .inr ⟨g, cap, cur, rfl, Nat.zero_le _, hg, hn, hm, hs, ht⟩⟩
    have := hown.cells (g := g) rfl i (cb bs[i]) (by simp [hi])
    rwa [Addr.add_lit] at this
theorem Bytes.upd {S : Nat → Prop} {w w' : World} {v : Value} {bs : List UInt8} (h : Bytes w v bs) (hu : Upd S w w') (hn : ∀ k, v.ownBlock = some k → ¬ S k) : Bytes w' v bs := ownsRow_upd h hu hn
theorem Bytes.new {w w' : World} {v : Value} {bs : List UInt8} (h : Bytes w v bs) (hu : New w w') : Bytes w' v bs := ownsRow_new h hu
theorem Bytes.nil (w : World) : Bytes w (.slice none 0 0) [] := World.ownsRow_nil w 0 _ 1
/-- '[]byte{}' -/
theorem Bytes.made (w : World) : Bytes (w.alloc (.cells #[] 5)) (.slice (some ⟨w.heap.size, 0, none⟩) 0 0) [] :=
  World.ownsRow_made w #[] 0 (Nat.zero_le _) (Nat.zero_le _) rfl

/-- append of one byte, at a goal that is held -/
theorem appB {ops : Array Oper} {rest : List Oper} {o : Oper} {a : Act} {Q : Exit → Act → World → Prop} {w : World} (s x : Operand) (u : UInt8) {v : Value} {d : List UInt8} {n : Int}
    (hb : Bytes w v d) (hn : n = u.toNat) (hl : d.length ≤ 1000000000) (hgd : o.guard = none) (ho : o.op = .call { callee := .builtin .append, args := #[s, x], argTypes := #[50, 50] })
    (hs : a.eval s = v) (hx : a.eval x = .slice (some ⟨w.heap.size, 0, none⟩) 1 1)
    (h : ∀ v' w', Bytes w' v' (d ++ [u]) → Adds w w' v v' → wpList Try.prog ops Q rest (a.put o.dst v') w') :
    Hold (wpList Try.prog ops Q (o :: rest) a (w.alloc (.cells #[.int .u8 n] 5))) :=
  held_append1 50 5 1 (.int .u8 0) info5 Try.underlying50 rfl s x hgd ho 0 v _ _ hs hb (.int .u8 n) hx rfl (by unfold maxLen; omega) (by omega) (Nat.zero_le _)
    fun v' w' h1 h2 => h v' w' (Bytes.one n u hn h1) h2

theorem cb_one (x : UInt8) : (cb x).oneCell' = true := rfl
/-- append of bytes: the run -/
theorem runR {w : World} {sv v : Value} {ds bs : List UInt8} (ty : TypeId)
    (hb : Bytes w sv ds) (hr : Rd w v bs) (hl : ds.length + bs.length ≤ 1000000000) :
    ∃ v' w', (Builtin.append_ #[50, 50] ty #[sv, v]).run Try.prog w = .ok v' w' ∧ Bytes w' v' (ds ++ bs) ∧ Adds w w' sv v' := by
  obtain ⟨ao, cap, rfl, h1, h2, h3⟩ := hr
  obtain ⟨i, hi, hz, hsz, hby⟩ := info_parts info5
  cases ao with
  | none =>
    have hc := h2 rfl
    subst hc
    have : bs = [] := List.eq_nil_of_length_eq_zero (by omega)
    subst this
    have hr := run_append_owned_none (P := Try.prog) w 0 50 ty 5 i 1 Try.underlying50 hi sv ds.length (ds.map cb) hb
    exact ⟨sv, w, hr, by simpa using hb, Adds.refl w sv⟩
  | some ad =>
    have hnews : ∀ j u, (bs.map cb)[j]? = some u → w.cell? (ad.add j) = some u := by
      intro j u hj
      have hlt : j < bs.length := by
        have := (List.getElem?_eq_some_iff.1 hj).1
        simpa using this
      obtain ⟨b, o', e, hc⟩ := h3 (by intro e; subst e; simp at hlt)
      cases e
      have hu : u = cb bs[j] := by
        simp only [List.getElem?_map, List.getElem?_eq_getElem hlt, Option.map_some, Option.some.injEq] at hj
        exact hj.symm
      subst hu
      rw [Addr.add_lit]
      exact hc j hlt
    have hone : ∀ u ∈ bs.map cb, u.oneCell' = true := by
      intro u hu
      simp only [List.mem_map] at hu
      obtain ⟨x, _, rfl⟩ := hu
      rfl
    obtain ⟨v', w', hr, ho, ha⟩ := run_append_adds (P := Try.prog) w 50 ty 5 i (.int .u8 0) 1 1 Try.underlying50 hi hz hsz hby rfl (by decide) 0 sv ds.length (ds.map cb) hb
      ad bs.length cap (bs.map cb) (by simp) hnews hone (by unfold maxLen; omega) (by omega) (Nat.zero_le _)
    refine ⟨v', w', hr, ?_, ha⟩
    unfold Bytes
    rw [List.length_append, List.map_append]
    exact ho

/-- append of bytes, at a goal that is held -/
theorem appR {ops : Array Oper} {rest : List Oper} {o : Oper} {a : Act} {Q : Exit → Act → World → Prop} {w : World} (s x : Operand) {sv v : Value} {ds bs : List UInt8}
    (hb : Bytes w sv ds) (hr : Rd w v bs) (hl : ds.length + bs.length ≤ 1000000000) (hgd : o.guard = none) (ho : o.op = .call { callee := .builtin .append, args := #[s, x], argTypes := #[50, 50] })
    (hs : a.eval s = sv) (hx : a.eval x = v)
    (h : ∀ v' w', Bytes w' v' (ds ++ bs) → Adds w w' sv v' → wpList Try.prog ops Q rest (a.put o.dst v') w') :
    Hold (wpList Try.prog ops Q (o :: rest) a w) := by
  obtain ⟨v', w', hr, ho', ha⟩ := runR o.type hb hr hl
  refine wpList_plain hgd fun K hK => ?_
  unfold Oper.wp execOp
  simp only [ho, resolve, invoke, builtin, Sem.run_bind, Sem.run_pure, Result.andThen_ok, List.map_toArray, List.map_cons, List.map_nil, hs, hx, hr]
  exact hK _ _ (h v' w' ho' ha)

/-- append of bytes, as one step of a region that draws its order -/
theorem stepR {ops : Array Oper} {o : Oper} {a : Act} {w : World} {K : Act → World → Prop} {Q : Exit → Act → World → Prop} {E : Prop} (s x : Operand) {sv v : Value} {ds bs : List UInt8}
    (hb : Bytes w sv ds) (hr : Rd w v bs) (hl : ds.length + bs.length ≤ 1000000000) (hw : Region.wanted o (yielded ops a.tmps) = true)
    (ho : o.op = .call { callee := .builtin .append, args := #[s, x], argTypes := #[50, 50] }) (hs : a.eval s = sv) (hx : a.eval x = v)
    (h : ∀ v' w', Bytes w' v' (ds ++ bs) → Adds w w' sv v' → K (a.put o.dst v') w') :
    if Region.wanted o (yielded ops a.tmps) = true then Oper.wp Try.prog o a w K Q else E := by
  obtain ⟨v', w', hr, ho', ha⟩ := runR o.type hb hr hl
  rw [if_pos hw]
  unfold Oper.wp execOp
  simp only [ho, resolve, invoke, builtin, Sem.run_bind, Sem.run_pure, Result.andThen_ok, List.map_toArray, List.map_cons, List.map_nil, hs, hx, hr]
  exact h v' w' ho' ha

/-- what comes back is a new row -/
def PostN (w : World) (bs : List UInt8) (e : Ending) (w' : World) : Prop := ∃ v', e = .returned v' ∧ Bytes w' v' bs ∧ New w w' ∧ Fresh w v'

def Post (w : World) (v : Value) (bs : List UInt8) (e : Ending) (w' : World) : Prop := ∃ v', e = .returned v' ∧ Bytes w' v' bs ∧ Adds w w' v v'

end Go.Proofs.Ytjagimlmclejeaa

namespace Go.Proofs.Own
open Go Go.RowKit

theorem heap_at (w : World) (o : Obj) (k : Nat) : (w.alloc o).heap[k]? = if k = w.heap.size then some o else w.heap[k]? := by
  show (w.heap.push o)[k]? = _
  rw [Array.getElem?_push]

theorem hp_new {w : World} {o : Obj} {k : Nat} (h : k = w.heap.size) : (w.alloc o).heap[k]? = some o := by rw [heap_at, if_pos h]
theorem hp_old {w : World} {o x : Obj} {k : Nat} (h : k < w.heap.size) (hw : w.heap[k]? = some x) : (w.alloc o).heap[k]? = some x := by rw [heap_at, if_neg (by omega)]; exact hw

/-- a block of two cells -/
def Blk (w : World) (g : Nat) (a b : Value) (t : TypeId) : Prop := w.heap[g]? = some (.cells #[a, b] t)
theorem Blk.of {w w' : World} {a b : Value} {t : TypeId} (h : New (w.alloc (.cells #[a, b] t)) w') : Blk w' w.heap.size a b t :=
  (h.block w.heap.size (by simp) (fun h => h)).trans (hp_new rfl)
theorem Blk.ofDrew {w w' : World} {a b : Value} {t : TypeId} (h : New (w.alloc (.cells #[a, b] t)).drew w') : Blk w' w.heap.size a b t :=
  (h.block w.heap.size (by simp [World.drew]) (fun h => h)).trans (hp_new rfl)
theorem Blk.new {w w' : World} {g : Nat} {a b : Value} {t : TypeId} (h : Blk w g a b t) (hn : New w w') : Blk w' g a b t :=
  (hn.block g (Array.getElem?_eq_some_iff.1 h).1 (fun h => h)).trans h
theorem Blk.c0 {w : World} {g : Nat} {a b : Value} {t : TypeId} (h : Blk w g a b t) : w.cell? ⟨g, 0, none⟩ = some a := by
  rw [cell_of_row _ g 0 _ t (0, 0) h]; rfl
theorem Blk.c1 {w : World} {g : Nat} {a b : Value} {t : TypeId} (h : Blk w g a b t) : w.cell? ⟨g, 1, none⟩ = some b := by
  rw [cell_of_row _ g 1 _ t (0, 0) h]; rfl
theorem Blk.f {w : World} {g : Nat} {a b : Value} {t : TypeId} (h : Blk w g a b t) (i : Nat) : w.frozen? ⟨g, i, none⟩ = false := by
  unfold Blk at h
  simp [World.frozen?, h]

theorem Blk.put {w : World} {g : Nat} {a b x y : Value} {t : TypeId} (h : Blk w g a b t) : Blk ((w.setCell ⟨g, 0, none⟩ x).setCell ⟨g, 1, none⟩ y) g x y t := by
  unfold Blk at h ⊢
  simp [World.setCell, Array.getElem?_modify, h]
theorem Blk.mk {w : World} {x y : Value} {t : TypeId} : Blk (w.alloc (.cells #[x, y] t)) w.heap.size x y t := hp_new rfl
theorem Blk.put0 {w : World} {g : Nat} {a b x y : Value} {t : TypeId} (h : Blk w g a b t) : ((w.setCell ⟨g, 0, none⟩ x).setCell ⟨g, 1, none⟩ y).cell? ⟨g, 0, none⟩ = some x := by
  have hne : (⟨g, 1, none⟩ : Addr) ≠ ⟨g, 0, none⟩ := by intro e; cases e
  exact (World.cell?_setCell_other _ _ _ _ hne).trans (World.cell?_setCell_same _ _ _ h.c0)
theorem Blk.put1 {w : World} {g : Nat} {a b x y : Value} {t : TypeId} (h : Blk w g a b t) : ((w.setCell ⟨g, 0, none⟩ x).setCell ⟨g, 1, none⟩ y).cell? ⟨g, 1, none⟩ = some y := by
  have hne : (⟨g, 0, none⟩ : Addr) ≠ ⟨g, 1, none⟩ := by intro e; cases e
  exact World.cell?_setCell_same _ _ _ ((World.cell?_setCell_other _ _ _ _ hne).trans h.c1)

theorem Blk.lt {w : World} {g : Nat} {a b : Value} {t : TypeId} (h : Blk w g a b t) : g < w.heap.size := (Array.getElem?_eq_some_iff.1 h).1
theorem absN {S W : World} (_ : New S W) {p : Prop} (h : ∀ g, W.heap.size = g → S.heap.size ≤ W.heap.size → p) (hs : S.heap.size ≤ W.heap.size) : p := h _ rfl hs
/-- one more block, as a step of a region that draws its order: the world gets a name -/
theorem allocStep {K : Act → World → Prop} {a : Act} {S W : World} {x y : Value} {t : TypeId} (hn : New S W)
    (h : ∀ W2, New W W2 → New S W2 → Blk W2 W.heap.size x y t → K a W2) : K a (W.alloc (.cells #[x, y] t)) :=
  h _ ((Upd.refl _ _).alloc _) (hn.alloc _) Blk.mk
/-- a block of two cells written, likewise -/
theorem storeStep {K : Act → World → Prop} {a : Act} {S W : World} {g : Nat} {u v x y : Value} {t : TypeId} (hn : New S W) (hz : Blk W g u v t) (hf : S.heap.size ≤ g)
    (h : ∀ W2, New S W2 → Blk W2 g x y t → (∀ g' a b t', g' ≠ g → Blk W g' a b t' → Blk W2 g' a b t') → K a W2) : K a ((W.setCell ⟨g, 0, none⟩ x).setCell ⟨g, 1, none⟩ y) := by
  refine h _ ((hn.setCell (.inl hf) _).setCell (.inl hf) _) (Blk.put hz) ?_
  intro g' a b t' hne hb
  unfold Blk at hb ⊢
  rw [Below.heap_setCell _ _ _ _ hne, Below.heap_setCell _ _ _ _ hne]
  exact hb

/-- append to a row that is owned, as a step of a region that draws its order -/
theorem step_append {P : Program} {ops : Array Oper} {o : Oper} {a : Act} {Q : Exit → Act → World → Prop} {w : World} {K : Act → World → Prop} {E : Prop} (t e : TypeId) (size bytes : Nat) (z : Value)
    (hinfo : (P.info? e).map (fun i => (i.zero, i.size, i.bytes)) = some (some z, size, bytes)) (ht : P.underlying t = some (.slice e)) (hzs : z.cells.size = size) (hsz : 0 < size)
    (s x : Operand) (hwt : Region.wanted o (yielded ops a.tmps) = true) (ho : o.op = .call { callee := .builtin .append, args := #[s, x], argTypes := #[t, t] })
    (base : Nat) (v : Value) (n : Nat) (xs : List Value) (hs : a.eval s = v) (hown : w.ownsRow base e size v n xs)
    (ad : Addr) (m c : Nat) (news : List Value) (hx : a.eval x = .slice (some ad) m c) (hl : news.length = m * size) (hnews : ∀ j u, news[j]? = some u → w.cell? (ad.add j) = some u) (h1 : ∀ u ∈ news, u.oneCell' = true)
    (h63 : n + m ≤ maxLen) (hbytes : (n + m) * bytes ≤ 140737488355328) (hbase : base ≤ w.heap.size)
    (h : ∀ v' w', w'.ownsRow base e size v' (n + m) (xs ++ news) → Adds w w' v v' → K (a.put o.dst v') w') :
    if Region.wanted o (yielded ops a.tmps) = true then Oper.wp P o a w K Q else E := by
  obtain ⟨i, hi, h2, h3, h4⟩ := info_parts hinfo
  obtain ⟨v', w', hr, hw, ha⟩ := run_append_adds (P := P) w t o.type e i z size bytes ht hi h2 h3 h4 hzs hsz base v n xs hown ad m c news hl hnews h1 h63 hbytes hbase
  rw [if_pos hwt]
  unfold Oper.wp execOp
  simp only [ho, resolve, invoke, builtin, Sem.run_bind, Sem.run_pure, Result.andThen_ok, List.map_toArray, List.map_cons, List.map_nil, hs, hx, hr]
  exact h v' w' hw ha

/-- a whole struct loaded out of its box, as a take of a region -/
theorem load_box {P : Program} {o : Oper} {a : Act} {w : World} {ty : TypeId} {x : Operand} {g : Nat} {t : TypeId} {cs : Array Value} {d : TypeDesc} (ho : o.op = .load ty x)
    (hx : a.eval x = .pointer (some ⟨g, 0, none⟩)) (hg : w.heap[g]? = some (.cells cs t))
    (hu : P.underlying ty = some d) (hd : (match d with | .struct _ | .array _ _ => true | _ => false) = true) (hi : (P.info? ty).map (·.size) = some cs.size) :
    (execOp a.eval o).run P w = .ok (.value (.agg cs)) w := by
  unfold execOp
  simp only [ho, hx, Instr.loadAt, Instr.sureAddr, Sem.run_bind, Sem.run_pure, Result.andThen_ok, run_loadVar_row w g t ty cs (0, 0) d hg hu hd hi]

/-- a function's end: its one result lies in a cell, a struct -/
theorem ret_agg {P : Program} {fn : Func} {Q : Ending → World → Prop} {p : Tmp} {ty : TypeId} {a : Act} {w : World} {d : TypeDesc} (h : fn.results = #[.cell p ty])
    (hu : P.underlying ty = some d) (hd : (match d with | .struct _ | .array _ _ => true | _ => false) = true) (g : Nat) (cs : Array Value) (t : TypeId) (hi : (P.info? ty).map (·.size) = some cs.size)
    (hdef : a.defers = []) (hp : a.tmps.getD p undef = .pointer (some ⟨g, 0, none⟩)) (hg : w.heap[g]? = some (.cells cs t)) (hQ : Q (.returned (.agg cs)) w) : bodyPost P fn Q .ret a w :=
  bodyPost_ret (results_cell_row h a.tmps w g t cs (0, 0) d hp hg hu hd hi) hdef hQ
end Go.Proofs.Own

namespace Go.Proofs.Own
open Go Go.RowKit
theorem Upd.thenNew {S : Nat → Prop} {a b c : World} (h : Upd S a b) (k : New b c) : Upd S a c := h.trans (New.upd k) (T := S) (fun _ _ h => h)
/-- a block of one cell -/
def One1 (w : World) (g : Nat) (v : Value) : Prop := ∃ t, w.heap[g]? = some (.cells #[v] t)
theorem One1.lt {w : World} {g : Nat} {v : Value} (h : One1 w g v) : g < w.heap.size := by obtain ⟨t, h⟩ := h; exact (Array.getElem?_eq_some_iff.1 h).1
theorem One1.c {w : World} {g : Nat} {v : Value} (h : One1 w g v) : w.cell? ⟨g, 0, none⟩ = some v := by obtain ⟨t, h⟩ := h; rw [cell_of_row _ g 0 _ t (0, 0) h]; rfl
theorem One1.f {w : World} {g : Nat} {v : Value} (h : One1 w g v) : w.frozen? ⟨g, 0, none⟩ = false := by obtain ⟨t, h⟩ := h; simp [World.frozen?, h]
theorem One1.mk {w : World} {v : Value} {t : TypeId} {k : Nat} (h : k = w.heap.size) : One1 (w.alloc (.cells #[v] t)) k v := ⟨t, hp_new h⟩
theorem One1.upd {S : Nat → Prop} {w w' : World} {g : Nat} {v : Value} (h : One1 w g v) (hu : Upd S w w') (hn : ¬ S g) : One1 w' g v := by
  have hl := h.lt
  obtain ⟨t, h⟩ := h
  exact ⟨t, (hu.block g hl hn).trans h⟩
theorem One1.new {w w' : World} {g : Nat} {v : Value} (h : One1 w g v) (hn : New w w') : One1 w' g v := h.upd hn (fun h => h)
theorem One1.put {w : World} {g : Nat} {u v : Value} (h : One1 w g u) : One1 (w.setCell ⟨g, 0, none⟩ v) g v := by
  obtain ⟨t, h⟩ := h
  exact ⟨t, by simp [World.setCell, Array.getElem?_modify, h]⟩
theorem One1.other {w : World} {g : Nat} {p : Addr} {u v : Value} (h : One1 w g u) (hn : g ≠ p.block) : One1 (w.setCell p v) g u := by
  obtain ⟨t, h⟩ := h
  exact ⟨t, by rw [Below.heap_setCell _ _ _ _ hn]; exact h⟩
theorem One1.drew {w : World} {g : Nat} {v : Value} (h : One1 w g v) : One1 w.drew g v := h
theorem One1.push {w : World} {g : Nat} {v : Value} (h : One1 w g v) (o : Obj) : One1 (w.alloc o) g v := h.new ((Upd.refl _ _).alloc _)
theorem alloc1Step {K : Act → World → Prop} {a : Act} {S W : World} {x : Value} {t : TypeId} (hn : New S W)
    (h : ∀ W2, New W W2 → New S W2 → One1 W2 W.heap.size x → K a W2) : K a (W.alloc (.cells #[x] t)) :=
  h _ ((Upd.refl _ _).alloc _) (hn.alloc _) (.mk rfl)
theorem store1Step {K : Act → World → Prop} {a : Act} {S W : World} {g : Nat} {u x : Value} (hn : New S W) (hz : One1 W g u) (hf : S.heap.size ≤ g)
    (h : ∀ W2, New S W2 → One1 W2 g x → (∀ g' v, g' ≠ g → One1 W g' v → One1 W2 g' v) → K a W2) : K a (W.setCell ⟨g, 0, none⟩ x) :=
  h _ (hn.setCell (.inl hf) _) hz.put (fun g' v hne hv => hv.other hne)
end Go.Proofs.Own
