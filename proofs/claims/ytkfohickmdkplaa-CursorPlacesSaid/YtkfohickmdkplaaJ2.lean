/- Parts. -/
import Derived.Test.YtkfohickmdkplaaChecked
import Derived.Test.YtkfohickmdkplaaJ1
import Derived.Test.YtkfohickmdkplaaJ0
namespace Go.Proofs.Ytkfohickmdkplaa
open Go.RowKit Go.Proofs.Leb Go.Proofs.Own

/-- the byte type's row -/
theorem info5 : (Try.prog.info? 5).map (fun i => (i.zero, i.size, i.bytes)) = some (some (.int .u8 0), 1, 1) := by kernel_rfl

/-- a byte, as a cell -/
def cb (x : UInt8) : Value := .int .u8 x.toNat
/-- v is a row of bytes that the call owns -/
def Bytes (w : World) (v : Value) (bs : List UInt8) : Prop := w.ownsRow 0 5 1 v bs.length (bs.map cb)

theorem Bytes.one {w : World} {v : Value} {bs : List UInt8} (n : Int) (x : UInt8) (h : n = x.toNat) (hw : w.ownsRow 0 5 1 v (bs.length + 1) (bs.map cb ++ [.int .u8 n])) : Bytes w v (bs ++ [x]) := by
  subst h
  unfold Bytes
  rw [List.length_append, List.map_append]
  exact hw

theorem or128_fin : ∀ b : Fin 256, b.val ||| 128 = b.val % 128 + 128 := by decide +kernel
theorem or128 (x : Nat) : bits .or .u8 ((x : Int) % 256) 128 = ((x % 128 + 128 : Nat) : Int) := by
  have e : ((x : Int) % 256) = ((x % 256 : Nat) : Int) := by omega
  rw [e]
  have := u8_or_nat (x % 256) 128 (by omega) (by omega)
  rw [show ((128 : Nat) : Int) = 128 from rfl] at this
  rw [this]
  have := or128_fin ⟨x % 256, by omega⟩
  simp only at this
  rw [this]
  congr 1
  omega
theorem or128i (x : Int) : bits .or .u8 (x % 256) 128 = x % 128 + 128 := by
  have h := or128 (x % 256).toNat
  have e : (((x % 256).toNat : Nat) : Int) % 256 = x % 256 := by omega
  rw [e] at h
  rw [h]
  omega
theorem and127i (x : Int) : bits .and .u8 (x % 256) 127 = x % 128 := by
  have e : (x % 256) = (((x % 256).toNat : Nat) : Int) := by omega
  rw [e]
  have h := u8_and_nat (x % 256).toNat 127 (by omega) (by omega)
  rw [show ((127 : Nat) : Int) = 127 from rfl] at h
  rw [h, nat_mask7]
  omega
theorem tmod128 (y : Int) (h : y < 0) : y.tmod 128 = if y % 128 = 0 then 0 else y % 128 - 128 := by
  have e : y.tmod 128 = -((-y).tmod 128) := by rw [Int.neg_tmod, Int.neg_neg]
  rw [e, Int.tmod_eq_emod_of_nonneg (by omega)]
  split <;> omega
theorem tdiv128 (y : Int) : (y - y % 128).tdiv 128 = y / 128 := by
  have e : y - y % 128 = y / 128 * 128 := by omega
  rw [e, Int.mul_tdiv_cancel _ (by decide)]
theorem hid {p : Prop} (h : p) : Hid p := h

/-- a slice of bytes that can be read -/
def Rd (w : World) (v : Value) (bs : List UInt8) : Prop :=
  ∃ a cap, v = .slice a bs.length cap ∧ bs.length ≤ cap ∧ (a = none → cap = 0) ∧ (bs ≠ [] → ∃ b o, a = some ⟨b, o, none⟩ ∧ ∀ i (h : i < bs.length), w.cell? ⟨b, o + i, none⟩ = some (cb bs[i]))

theorem Rd.shape {w : World} {v : Value} {bs : List UInt8} (h : Rd w v bs) : ∃ a cap, v = .slice a bs.length cap := by
  obtain ⟨a, cap, h, -⟩ := h
  exact ⟨a, cap, h⟩
theorem Rd.nil (w : World) : Rd w (.slice none 0 0) [] := ⟨none, 0, rfl, Nat.le_refl _, fun _ => rfl, fun h => absurd rfl h⟩
theorem Rd.upd {S : Nat → Prop} {w w' : World} {v : Value} {bs : List UInt8} (h : Rd w v bs) (hu : Upd S w w') (hn : ∀ k, v.ownBlock = some k → ¬ S k) : Rd w' v bs := by
  obtain ⟨a, cap, rfl, h1, h2, h3⟩ := h
  refine ⟨a, cap, rfl, h1, h2, fun hb => ?_⟩
  obtain ⟨b, o, rfl, hc⟩ := h3 hb
  exact ⟨b, o, rfl, fun i hi => hu.cell (hc i hi) (hn b rfl)⟩
theorem Rd.new {w w' : World} {v : Value} {bs : List UInt8} (h : Rd w v bs) (hu : New w w') : Rd w' v bs := h.upd hu (fun _ _ h => h)
theorem Bytes.rd {w : World} {v : Value} {bs : List UInt8} (h : Bytes w v bs) : Rd w v bs := by
  obtain ⟨h1, h2⟩ := h
  rcases h2 with ⟨rfl, hn⟩ | ⟨g, cap, cur, rfl, _, hg, hn, hm, hs, ht⟩
  · have : bs = [] := List.eq_nil_of_length_eq_zero hn
    subst this
    exact Rd.nil w
  · refine ⟨_, cap, rfl, hn, (fun h => by cases h), fun _ => ⟨g, 0, rfl, fun i hi => ?_⟩⟩
    have hown : w.ownsRow 0 5 1 (.slice (some ⟨g, 0, none⟩) bs.length cap) bs.length (bs.map cb) := ⟨h1, .inr ⟨g, cap, cur, rfl, Nat.zero_le _, hg, hn, hm, hs, ht⟩⟩
    have := hown.cells (g := g) rfl i (cb bs[i]) (by simp [hi])
    rwa [Addr.add_lit] at this
theorem Bytes.upd {S : Nat → Prop} {w w' : World} {v : Value} {bs : List UInt8} (h : Bytes w v bs) (hu : Upd S w w') (hn : ∀ k, v.ownBlock = some k → ¬ S k) : Bytes w' v bs := ownsRow_upd h hu hn
theorem Bytes.new {w w' : World} {v : Value} {bs : List UInt8} (h : Bytes w v bs) (hu : New w w') : Bytes w' v bs := ownsRow_new h hu
theorem Bytes.nil (w : World) : Bytes w (.slice none 0 0) [] := World.ownsRow_nil w 0 _ 1
/-- '[]byte{}' -/
theorem Bytes.made (w : World) : Bytes (w.alloc (.cells #[] 5)) (.slice (some ⟨w.heap.size, 0, none⟩) 0 0) [] :=
  World.ownsRow_made w #[] 0 (Nat.zero_le _) (Nat.zero_le _) rfl

/-- append of one byte, at a goal that is held -/
theorem appB {ops : Array Oper} {rest : List Oper} {o : Oper} {a : Act} {Q : Exit → Act → World → Prop} {w : World} (s x : Operand) (u : UInt8) {v : Value} {d : List UInt8} {n : Int}
    (hb : Bytes w v d) (hn : n = u.toNat) (hl : d.length ≤ 1000000000) (hgd : o.guard = none) (ho : o.op = .call { callee := .builtin .append, args := #[s, x], argTypes := #[22, 22] })
    (hs : a.eval s = v) (hx : a.eval x = .slice (some ⟨w.heap.size, 0, none⟩) 1 1)
    (h : ∀ v' w', Bytes w' v' (d ++ [u]) → Adds w w' v v' → wpList Try.prog ops Q rest (a.put o.dst v') w') :
    Hold (wpList Try.prog ops Q (o :: rest) a (w.alloc (.cells #[.int .u8 n] 5))) :=
  held_append1 22 5 1 (.int .u8 0) info5 Try.underlying22 rfl s x hgd ho 0 v _ _ hs hb (.int .u8 n) hx rfl (by unfold maxLen; omega) (by omega) (Nat.zero_le _)
    fun v' w' h1 h2 => h v' w' (Bytes.one n u hn h1) h2

theorem cb_one (x : UInt8) : (cb x).oneCell' = true := rfl
/-- append of bytes: the run -/
theorem runR {w : World} {sv v : Value} {ds bs : List UInt8} (ty : TypeId)
    (hb : Bytes w sv ds) (hr : Rd w v bs) (hl : ds.length + bs.length ≤ 1000000000) :
    ∃ v' w', (Builtin.append_ #[22, 22] ty #[sv, v]).run Try.prog w = .ok v' w' ∧ Bytes w' v' (ds ++ bs) ∧ Adds w w' sv v' := by
  obtain ⟨ao, cap, rfl, h1, h2, h3⟩ := hr
  obtain ⟨i, hi, hz, hsz, hby⟩ := info_parts info5
  cases ao with
  | none =>
    have hc := h2 rfl
    subst hc
    have : bs = [] := List.eq_nil_of_length_eq_zero (by omega)
    subst this
    have hr := run_append_owned_none (P := Try.prog) w 0 22 ty 5 i 1 Try.underlying22 hi sv ds.length (ds.map cb) hb
    exact ⟨sv, w, hr, by simpa using hb, Adds.refl w sv⟩
  | some ad =>
    have hnews : ∀ j u, (bs.map cb)[j]? = some u → w.cell? (ad.add j) = some u := by
      intro j u hj
      have hlt : j < bs.length := by
        have := (List.getElem?_eq_some_iff.1 hj).1
        simpa using this
      obtain ⟨b, o', e, hc⟩ := h3 (by intro e; subst e; simp at hlt)
      cases e
      have hu : u = cb bs[j] := by
        simp only [List.getElem?_map, List.getElem?_eq_getElem hlt, Option.map_some, Option.some.injEq] at hj
        exact hj.symm
      subst hu
      rw [Addr.add_lit]
      exact hc j hlt
    have hone : ∀ u ∈ bs.map cb, u.oneCell' = true := by
      intro u hu
      simp only [List.mem_map] at hu
      obtain ⟨x, _, rfl⟩ := hu
      rfl
    obtain ⟨v', w', hr, ho, ha⟩ := run_append_adds (P := Try.prog) w 22 ty 5 i (.int .u8 0) 1 1 Try.underlying22 hi hz hsz hby rfl (by decide) 0 sv ds.length (ds.map cb) hb
      ad bs.length cap (bs.map cb) (by simp) hnews hone (by unfold maxLen; omega) (by omega) (Nat.zero_le _)
    refine ⟨v', w', hr, ?_, ha⟩
    unfold Bytes
    rw [List.length_append, List.map_append]
    exact ho

/-- append of bytes, at a goal that is held -/
theorem appR {ops : Array Oper} {rest : List Oper} {o : Oper} {a : Act} {Q : Exit → Act → World → Prop} {w : World} (s x : Operand) {sv v : Value} {ds bs : List UInt8}
    (hb : Bytes w sv ds) (hr : Rd w v bs) (hl : ds.length + bs.length ≤ 1000000000) (hgd : o.guard = none) (ho : o.op = .call { callee := .builtin .append, args := #[s, x], argTypes := #[22, 22] })
    (hs : a.eval s = sv) (hx : a.eval x = v)
    (h : ∀ v' w', Bytes w' v' (ds ++ bs) → Adds w w' sv v' → wpList Try.prog ops Q rest (a.put o.dst v') w') :
    Hold (wpList Try.prog ops Q (o :: rest) a w) := by
  obtain ⟨v', w', hr, ho', ha⟩ := runR o.type hb hr hl
  refine wpList_plain hgd fun K hK => ?_
  unfold Oper.wp execOp
  simp only [ho, resolve, invoke, builtin, Sem.run_bind, Sem.run_pure, Result.andThen_ok, List.map_toArray, List.map_cons, List.map_nil, hs, hx, hr]
  exact hK _ _ (h v' w' ho' ha)

/-- append of bytes, as one step of a region that draws its order -/
theorem stepR {ops : Array Oper} {o : Oper} {a : Act} {w : World} {K : Act → World → Prop} {Q : Exit → Act → World → Prop} {E : Prop} (s x : Operand) {sv v : Value} {ds bs : List UInt8}
    (hb : Bytes w sv ds) (hr : Rd w v bs) (hl : ds.length + bs.length ≤ 1000000000) (hw : Region.wanted o (yielded ops a.tmps) = true)
    (ho : o.op = .call { callee := .builtin .append, args := #[s, x], argTypes := #[22, 22] }) (hs : a.eval s = sv) (hx : a.eval x = v)
    (h : ∀ v' w', Bytes w' v' (ds ++ bs) → Adds w w' sv v' → K (a.put o.dst v') w') :
    if Region.wanted o (yielded ops a.tmps) = true then Oper.wp Try.prog o a w K Q else E := by
  obtain ⟨v', w', hr, ho', ha⟩ := runR o.type hb hr hl
  rw [if_pos hw]
  unfold Oper.wp execOp
  simp only [ho, resolve, invoke, builtin, Sem.run_bind, Sem.run_pure, Result.andThen_ok, List.map_toArray, List.map_cons, List.map_nil, hs, hx, hr]
  exact h v' w' ho' ha

/-- what comes back is a new row -/
def PostN (w : World) (bs : List UInt8) (e : Ending) (w' : World) : Prop := ∃ v', e = .returned v' ∧ Bytes w' v' bs ∧ New w w' ∧ Fresh w v'

def Post (w : World) (v : Value) (bs : List UInt8) (e : Ending) (w' : World) : Prop := ∃ v', e = .returned v' ∧ Bytes w' v' bs ∧ Adds w w' v v'

end Go.Proofs.Ytkfohickmdkplaa

namespace Go.Proofs.Own
open Go Go.RowKit

theorem heap_at (w : World) (o : Obj) (k : Nat) : (w.alloc o).heap[k]? = if k = w.heap.size then some o else w.heap[k]? := by
  show (w.heap.push o)[k]? = _
  rw [Array.getElem?_push]

theorem hp_new {w : World} {o : Obj} {k : Nat} (h : k = w.heap.size) : (w.alloc o).heap[k]? = some o := by rw [heap_at, if_pos h]
theorem hp_old {w : World} {o x : Obj} {k : Nat} (h : k < w.heap.size) (hw : w.heap[k]? = some x) : (w.alloc o).heap[k]? = some x := by rw [heap_at, if_neg (by omega)]; exact hw

/-- a block of two cells -/
def Blk (w : World) (g : Nat) (a b : Value) (t : TypeId) : Prop := w.heap[g]? = some (.cells #[a, b] t)
theorem Blk.of {w w' : World} {a b : Value} {t : TypeId} (h : New (w.alloc (.cells #[a, b] t)) w') : Blk w' w.heap.size a b t :=
  (h.block w.heap.size (by simp) (fun h => h)).trans (hp_new rfl)
theorem Blk.ofDrew {w w' : World} {a b : Value} {t : TypeId} (h : New (w.alloc (.cells #[a, b] t)).drew w') : Blk w' w.heap.size a b t :=
  (h.block w.heap.size (by simp [World.drew]) (fun h => h)).trans (hp_new rfl)
theorem Blk.new {w w' : World} {g : Nat} {a b : Value} {t : TypeId} (h : Blk w g a b t) (hn : New w w') : Blk w' g a b t :=
  (hn.block g (Array.getElem?_eq_some_iff.1 h).1 (fun h => h)).trans h
theorem Blk.c0 {w : World} {g : Nat} {a b : Value} {t : TypeId} (h : Blk w g a b t) : w.cell? ⟨g, 0, none⟩ = some a := by
  rw [cell_of_row _ g 0 _ t (0, 0) h]; rfl
theorem Blk.c1 {w : World} {g : Nat} {a b : Value} {t : TypeId} (h : Blk w g a b t) : w.cell? ⟨g, 1, none⟩ = some b := by
  rw [cell_of_row _ g 1 _ t (0, 0) h]; rfl
theorem Blk.f {w : World} {g : Nat} {a b : Value} {t : TypeId} (h : Blk w g a b t) (i : Nat) : w.frozen? ⟨g, i, none⟩ = false := by
  unfold Blk at h
  simp [World.frozen?, h]

theorem Blk.put {w : World} {g : Nat} {a b x y : Value} {t : TypeId} (h : Blk w g a b t) : Blk ((w.setCell ⟨g, 0, none⟩ x).setCell ⟨g, 1, none⟩ y) g x y t := by
  unfold Blk at h ⊢
  simp [World.setCell, Array.getElem?_modify, h]
theorem Blk.mk {w : World} {x y : Value} {t : TypeId} : Blk (w.alloc (.cells #[x, y] t)) w.heap.size x y t := hp_new rfl
theorem Blk.put0 {w : World} {g : Nat} {a b x y : Value} {t : TypeId} (h : Blk w g a b t) : ((w.setCell ⟨g, 0, none⟩ x).setCell ⟨g, 1, none⟩ y).cell? ⟨g, 0, none⟩ = some x := by
  have hne : (⟨g, 1, none⟩ : Addr) ≠ ⟨g, 0, none⟩ := by intro e; cases e
  exact (World.cell?_setCell_other _ _ _ _ hne).trans (World.cell?_setCell_same _ _ _ h.c0)
theorem Blk.put1 {w : World} {g : Nat} {a b x y : Value} {t : TypeId} (h : Blk w g a b t) : ((w.setCell ⟨g, 0, none⟩ x).setCell ⟨g, 1, none⟩ y).cell? ⟨g, 1, none⟩ = some y := by
  have hne : (⟨g, 0, none⟩ : Addr) ≠ ⟨g, 1, none⟩ := by intro e; cases e
  exact World.cell?_setCell_same _ _ _ ((World.cell?_setCell_other _ _ _ _ hne).trans h.c1)

theorem Blk.lt {w : World} {g : Nat} {a b : Value} {t : TypeId} (h : Blk w g a b t) : g < w.heap.size := (Array.getElem?_eq_some_iff.1 h).1
theorem absN {S W : World} (_ : New S W) {p : Prop} (h : ∀ g, W.heap.size = g → S.heap.size ≤ W.heap.size → p) (hs : S.heap.size ≤ W.heap.size) : p := h _ rfl hs
/-- one more block, as a step of a region that draws its order: the world gets a name -/
theorem allocStep {K : Act → World → Prop} {a : Act} {S W : World} {x y : Value} {t : TypeId} (hn : New S W)
    (h : ∀ W2, New W W2 → New S W2 → Blk W2 W.heap.size x y t → K a W2) : K a (W.alloc (.cells #[x, y] t)) :=
  h _ ((Upd.refl _ _).alloc _) (hn.alloc _) Blk.mk
/-- a block of two cells written, likewise -/
theorem storeStep {K : Act → World → Prop} {a : Act} {S W : World} {g : Nat} {u v x y : Value} {t : TypeId} (hn : New S W) (hz : Blk W g u v t) (hf : S.heap.size ≤ g)
    (h : ∀ W2, New S W2 → Blk W2 g x y t → (∀ g' a b t', g' ≠ g → Blk W g' a b t' → Blk W2 g' a b t') → K a W2) : K a ((W.setCell ⟨g, 0, none⟩ x).setCell ⟨g, 1, none⟩ y) := by
  refine h _ ((hn.setCell (.inl hf) _).setCell (.inl hf) _) (Blk.put hz) ?_
  intro g' a b t' hne hb
  unfold Blk at hb ⊢
  rw [Below.heap_setCell _ _ _ _ hne, Below.heap_setCell _ _ _ _ hne]
  exact hb

/-- append to a row that is owned, as a step of a region that draws its order -/
theorem step_append {P : Program} {ops : Array Oper} {o : Oper} {a : Act} {Q : Exit → Act → World → Prop} {w : World} {K : Act → World → Prop} {E : Prop} (t e : TypeId) (size bytes : Nat) (z : Value)
    (hinfo : (P.info? e).map (fun i => (i.zero, i.size, i.bytes)) = some (some z, size, bytes)) (ht : P.underlying t = some (.slice e)) (hzs : z.cells.size = size) (hsz : 0 < size)
    (s x : Operand) (hwt : Region.wanted o (yielded ops a.tmps) = true) (ho : o.op = .call { callee := .builtin .append, args := #[s, x], argTypes := #[t, t] })
    (base : Nat) (v : Value) (n : Nat) (xs : List Value) (hs : a.eval s = v) (hown : w.ownsRow base e size v n xs)
    (ad : Addr) (m c : Nat) (news : List Value) (hx : a.eval x = .slice (some ad) m c) (hl : news.length = m * size) (hnews : ∀ j u, news[j]? = some u → w.cell? (ad.add j) = some u) (h1 : ∀ u ∈ news, u.oneCell' = true)
    (h63 : n + m ≤ maxLen) (hbytes : (n + m) * bytes ≤ 140737488355328) (hbase : base ≤ w.heap.size)
    (h : ∀ v' w', w'.ownsRow base e size v' (n + m) (xs ++ news) → Adds w w' v v' → K (a.put o.dst v') w') :
    if Region.wanted o (yielded ops a.tmps) = true then Oper.wp P o a w K Q else E := by
  obtain ⟨i, hi, h2, h3, h4⟩ := info_parts hinfo
  obtain ⟨v', w', hr, hw, ha⟩ := run_append_adds (P := P) w t o.type e i z size bytes ht hi h2 h3 h4 hzs hsz base v n xs hown ad m c news hl hnews h1 h63 hbytes hbase
  rw [if_pos hwt]
  unfold Oper.wp execOp
  simp only [ho, resolve, invoke, builtin, Sem.run_bind, Sem.run_pure, Result.andThen_ok, List.map_toArray, List.map_cons, List.map_nil, hs, hx, hr]
  exact h v' w' hw ha

/-- a whole struct loaded out of its box, as a take of a region -/
theorem load_box {P : Program} {o : Oper} {a : Act} {w : World} {ty : TypeId} {x : Operand} {g : Nat} {t : TypeId} {cs : Array Value} {d : TypeDesc} (ho : o.op = .load ty x)
    (hx : a.eval x = .pointer (some ⟨g, 0, none⟩)) (hg : w.heap[g]? = some (.cells cs t))
    (hu : P.underlying ty = some d) (hd : (match d with | .struct _ | .array _ _ => true | _ => false) = true) (hi : (P.info? ty).map (·.size) = some cs.size) :
    (execOp a.eval o).run P w = .ok (.value (.agg cs)) w := by
  unfold execOp
  simp only [ho, hx, Instr.loadAt, Instr.sureAddr, Sem.run_bind, Sem.run_pure, Result.andThen_ok, run_loadVar_row w g t ty cs (0, 0) d hg hu hd hi]

/-- a function's end: its one result lies in a cell, a struct -/
theorem ret_agg {P : Program} {fn : Func} {Q : Ending → World → Prop} {p : Tmp} {ty : TypeId} {a : Act} {w : World} {d : TypeDesc} (h : fn.results = #[.cell p ty])
    (hu : P.underlying ty = some d) (hd : (match d with | .struct _ | .array _ _ => true | _ => false) = true) (g : Nat) (cs : Array Value) (t : TypeId) (hi : (P.info? ty).map (·.size) = some cs.size)
    (hdef : a.defers = []) (hp : a.tmps.getD p undef = .pointer (some ⟨g, 0, none⟩)) (hg : w.heap[g]? = some (.cells cs t)) (hQ : Q (.returned (.agg cs)) w) : bodyPost P fn Q .ret a w :=
  bodyPost_ret (results_cell_row h a.tmps w g t cs (0, 0) d hp hg hu hd hi) hdef hQ
end Go.Proofs.Own

namespace Go.Proofs.Own
open Go Go.RowKit

/-- what a row of cells represents, in memory that lies in the blocks B -/
abbrev ERep (α : Type) := World → (Nat → Prop) → α → List Value → Prop
structure ERep.Ok {α : Type} (E : ERep α) : Prop where
  upd : ∀ {S : Nat → Prop} {w w' : World} {B : Nat → Prop} {x : α} {row : List Value}, E w B x row → Upd S w w' → (∀ k, B k → ¬ S k) → E w' B x row
  mono : ∀ {w : World} {B B' : Nat → Prop} {x : α} {row : List Value}, E w B x row → (∀ k, B k → B' k) → E w B' x row

/-- a slice of elements of n cells that can be read -/
def RdE {α : Type} (n : Nat) (E : ERep α) (w : World) (B : Nat → Prop) (v : Value) (xs : List α) : Prop :=
  ∃ a cap, v = .slice a xs.length cap ∧ xs.length ≤ cap ∧ (a = none → cap = 0) ∧ (∀ k, v.ownBlock = some k → B k) ∧ (xs ≠ [] → ∃ b o, a = some ⟨b, o, none⟩ ∧
    ∀ i (h : i < xs.length), ∃ row, row.length = n ∧ E w B xs[i] row ∧ ∀ j u, row[j]? = some u → w.cell? ⟨b, o + i * n + j, none⟩ = some u)
section
variable {α : Type} {n : Nat} {E : ERep α} {w w' : World} {B B' : Nat → Prop} {v : Value} {xs : List α}
theorem RdE.shape (h : RdE n E w B v xs) : ∃ a cap, v = .slice a xs.length cap := by
  obtain ⟨a, cap, h, -⟩ := h
  exact ⟨a, cap, h⟩
theorem RdE.own (h : RdE n E w B v xs) : ∀ k, v.ownBlock = some k → B k := by
  obtain ⟨a, cap, rfl, _, _, h, _⟩ := h
  exact h
theorem RdE.nil : RdE n E w B (.slice none 0 0) [] := ⟨none, 0, rfl, Nat.le_refl _, fun _ => rfl, (fun k h => by cases h), fun h => absurd rfl h⟩
theorem RdE.upd {S : Nat → Prop} (hE : E.Ok) (h : RdE n E w B v xs) (hu : Upd S w w') (hS : ∀ k, B k → ¬ S k) : RdE n E w' B v xs := by
  obtain ⟨a, cap, rfl, h1, h2, h3, h4⟩ := h
  refine ⟨a, cap, rfl, h1, h2, h3, fun hx => ?_⟩
  obtain ⟨b, o, rfl, hc⟩ := h4 hx
  refine ⟨b, o, rfl, fun i hi => ?_⟩
  obtain ⟨row, hl, he, hr⟩ := hc i hi
  exact ⟨row, hl, hE.upd he hu hS, fun j u hj => hu.cell (hr j u hj) (hS b (h3 b rfl))⟩
theorem RdE.new (hE : E.Ok) (h : RdE n E w B v xs) (hu : New w w') : RdE n E w' B v xs := h.upd hE hu (fun _ _ h => h)
theorem RdE.mono (hE : E.Ok) (h : RdE n E w B v xs) (hB : ∀ k, B k → B' k) : RdE n E w B' v xs := by
  obtain ⟨a, cap, rfl, h1, h2, h3, h4⟩ := h
  refine ⟨a, cap, rfl, h1, h2, fun k hk => hB k (h3 k hk), fun hx => ?_⟩
  obtain ⟨b, o, rfl, hc⟩ := h4 hx
  refine ⟨b, o, rfl, fun i hi => ?_⟩
  obtain ⟨row, hl, he, hr⟩ := hc i hi
  exact ⟨row, hl, hE.mono he hB, hr⟩
/-- its element at an index -/
theorem RdE.at (h : RdE n E w B v xs) : ∃ a cap, v = .slice a xs.length cap ∧ ∀ i (hi : i < xs.length), ∃ b o row, a = some ⟨b, o, none⟩ ∧ row.length = n ∧ E w B xs[i] row ∧ ∀ j u, row[j]? = some u → w.cell? ⟨b, o + i * n + j, none⟩ = some u := by
  obtain ⟨a, cap, rfl, h1, h2, h3, h4⟩ := h
  refine ⟨a, cap, rfl, fun i hi => ?_⟩
  obtain ⟨b, o, rfl, hc⟩ := h4 (by intro e; subst e; simp at hi)
  obtain ⟨row, hl, he, hr⟩ := hc i hi
  exact ⟨b, o, row, rfl, hl, he, hr⟩
end
/-- an element that holds no memory -/
def Pure {α : Type} (f : α → List Value) : ERep α := fun _ _ x row => row = f x
theorem Pure.ok {α : Type} (f : α → List Value) : (Pure f).Ok := ⟨fun h _ _ => h, fun h _ => h⟩

/-- what one cell represents, in memory that lies in the blocks B -/
abbrev FRep (β : Type) := World → (Nat → Prop) → Value → β → Prop
structure FRep.Ok {β : Type} (F : FRep β) : Prop where
  upd : ∀ {S : Nat → Prop} {w w' : World} {B : Nat → Prop} {u : Value} {y : β}, F w B u y → Upd S w w' → (∀ k, B k → ¬ S k) → F w' B u y
  mono : ∀ {w : World} {B B' : Nat → Prop} {u : Value} {y : β}, F w B u y → (∀ k, B k → B' k) → F w B' u y
theorem FRep.Ok.new {β : Type} {F : FRep β} (h : F.Ok) {w w' : World} {B : Nat → Prop} {u : Value} {y : β} (hf : F w B u y) (hn : New w w') : F w' B u y := h.upd hf hn (fun _ _ h => h)
/-- an element of one cell -/
def E1 {β : Type} (F : FRep β) : ERep β := fun w B x row => ∃ u, row = [u] ∧ F w B u x
theorem E1.ok {β : Type} {F : FRep β} (h : F.Ok) : (E1 F).Ok :=
  ⟨fun ⟨u, e, hf⟩ hu hS => ⟨u, e, h.upd hf hu hS⟩, fun ⟨u, e, hf⟩ hB => ⟨u, e, h.mono hf hB⟩⟩
theorem e1_at {β : Type} {F : FRep β} {w : World} {B : Nat → Prop} {v : Value} {xs : List β} (h : RdE 1 (E1 F) w B v xs) : ∃ a cap, v = .slice a xs.length cap ∧ ∀ i (hi : i < xs.length), ∃ b o u, a = some ⟨b, o, none⟩ ∧ w.cell? ⟨b, o + i, none⟩ = some u ∧ F w B u xs[i] := by
  obtain ⟨a, cap, rfl, hat⟩ := h.at
  refine ⟨a, cap, rfl, fun i hi => ?_⟩
  obtain ⟨b, o, row, rfl, hl, ⟨u, rfl, hf⟩, hc⟩ := hat i hi
  exact ⟨b, o, u, rfl, by simpa using hc 0 _ rfl, hf⟩
/-- where the elements' memory of a slice that is owned lies: anywhere of C but in its own block -/
def Off (C : Nat → Prop) (w : World) (v : Value) : Nat → Prop := fun k => (k < w.heap.size ∧ v.ownBlock ≠ some k) ∧ C k
def OwE {α : Type} (T : TypeId) (n : Nat) (E : ERep α) (C : Nat → Prop) (w : World) (v : Value) (xs : List α) : Prop :=
  ∃ rows : List (List Value), rows.length = xs.length ∧ (∀ r ∈ rows, r.length = n) ∧ (∀ i (h : i < xs.length) (h' : i < rows.length), E w (Off C w v) xs[i] rows[i]) ∧ w.ownsRow 0 T n v xs.length rows.flatten
theorem flatten_at {n : Nat} : ∀ (rows : List (List Value)), (∀ r ∈ rows, r.length = n) → ∀ i (h : i < rows.length) j u, rows[i][j]? = some u → rows.flatten[i * n + j]? = some u
  | [], _, i, h, _, _, _ => absurd h (Nat.not_lt_zero _)
  | r :: rs, hn, 0, _, j, u, hu => by
    simp only [List.getElem_cons_zero] at hu
    rw [List.flatten_cons, Nat.zero_mul, Nat.zero_add, List.getElem?_append_left (List.getElem?_eq_some_iff.1 hu).1]
    exact hu
  | r :: rs, hn, i + 1, h, j, u, hu => by
    have hr := hn r (by simp)
    rw [List.flatten_cons, List.getElem?_append_right (by rw [hr, Nat.succ_mul]; omega), hr]
    have e : (i + 1) * n + j - n = i * n + j := by rw [Nat.succ_mul]; omega
    rw [e]
    exact flatten_at rs (fun r hr => hn r (by simp [hr])) i (by simpa using h) j u (by simpa using hu)
section
variable {α : Type} {T : TypeId} {n : Nat} {E : ERep α} {C : Nat → Prop} {w w' : World} {v v' : Value} {xs : List α}
theorem OwE.nil : OwE T n E C w (.slice none 0 0) [] := ⟨[], rfl, (fun r h => by cases h), (fun i h => absurd h (Nat.not_lt_zero _)), World.ownsRow_nil w 0 T n⟩
theorem OwE.lt (h : OwE T n E C w v xs) : ∀ k, v.ownBlock = some k → k < w.heap.size := by
  obtain ⟨_, _, _, _, h⟩ := h
  exact fun k hk => (World.ownsRow.lt h k hk).2
theorem OwE.shape (h : OwE T n E C w v xs) : ∃ a cap, v = .slice a xs.length cap := by
  obtain ⟨_, _, _, _, _, h⟩ := h
  rcases h with ⟨rfl, h⟩ | ⟨g, cap, _, rfl, _⟩
  · exact ⟨none, 0, by rw [h]⟩
  · exact ⟨_, _, rfl⟩
theorem OwE.upd {S : Nat → Prop} (hE : E.Ok) (h : OwE T n E C w v xs) (hu : Upd S w w') (hS : ∀ k, k < w.heap.size → C k → ¬ S k) (hv : ∀ k, v.ownBlock = some k → ¬ S k) : OwE T n E C w' v xs := by
  obtain ⟨rows, h1, h2, h3, h4⟩ := h
  refine ⟨rows, h1, h2, fun i hi hi' => ?_, ownsRow_upd h4 hu hv⟩
  exact hE.mono (hE.upd (h3 i hi hi') hu (fun k hk => hS k hk.1.1 hk.2)) (fun k hk => ⟨⟨Nat.lt_of_lt_of_le hk.1.1 hu.size, hk.1.2⟩, hk.2⟩)
theorem OwE.new (hE : E.Ok) (h : OwE T n E C w v xs) (hu : New w w') : OwE T n E C w' v xs := h.upd hE hu (fun _ _ _ h => h) (fun _ _ h => h)
theorem OwE.rd (hE : E.Ok) (h : OwE T n E C w v xs) : RdE n E w (fun k => k < w.heap.size ∧ (C k ∨ v.ownBlock = some k)) v xs := by
  obtain ⟨rows, h1, h2, h3, h4⟩ := h
  have hlt := fun k hk => (World.ownsRow.lt h4 k hk).2
  obtain ⟨h5, h6⟩ := h4
  rcases h6 with ⟨rfl, h7⟩ | ⟨g, cap, cur, rfl, hb, hg, hnc, hcm, hcs, htk⟩
  · have : xs = [] := List.eq_nil_of_length_eq_zero h7
    subst this
    exact RdE.nil
  · refine ⟨_, cap, rfl, hnc, (fun h => by cases h), (fun k hk => ⟨hlt k hk, .inr hk⟩), fun hx => ⟨g, 0, rfl, fun i hi => ?_⟩⟩
    have hi' : i < rows.length := by omega
    refine ⟨rows[i], h2 _ (List.getElem_mem _), hE.mono (h3 i hi hi') (fun k hk => ⟨hk.1.1, .inl hk.2⟩), fun j u hj => ?_⟩
    have hown : w.ownsRow 0 T n (.slice (some ⟨g, 0, none⟩) xs.length cap) xs.length rows.flatten := ⟨h5, .inr ⟨g, cap, cur, rfl, hb, hg, hnc, hcm, hcs, htk⟩⟩
    have := hown.cells (g := g) rfl (i * n + j) u (flatten_at rows h2 i hi' j u hj)
    rw [Addr.add_lit] at this
    rw [Nat.add_assoc]
    exact this
/-- one element more -/
theorem OwE.push (hE : E.Ok) {x : α} {row : List Value} (h1 : OwE T n E C w v xs) (hx : E w (Off C w v) x row) (hl : row.length = n)
    (hrow : ∀ rows : List (List Value), w.ownsRow 0 T n v xs.length rows.flatten → w'.ownsRow 0 T n v' (xs.length + 1) (rows.flatten ++ row)) (ha : Adds w w' v v') : OwE T n E C w' v' (xs ++ [x]) := by
  obtain ⟨rows, r1, r2, r3, r4⟩ := h1
  have hoff : ∀ k, Off C w v k → Off C w' v' k := by
    intro k hk
    refine ⟨⟨Nat.lt_of_lt_of_le hk.1.1 ha.upd.size, ?_⟩, hk.2⟩
    rcases ha.at' with e | ⟨j, e, hj⟩
    · rw [e]; exact hk.1.2
    · rw [e]
      intro he
      cases he
      have := hk.1.1
      omega
  have hstep : ∀ (y : α) (r : List Value), E w (Off C w v) y r → E w' (Off C w' v') y r := fun y r hy => hE.mono (hE.upd hy ha.upd (fun k hk => hk.1.2)) hoff
  refine ⟨rows ++ [row], by simp [r1], ?_, ?_, ?_⟩
  · intro r hr
    simp at hr
    rcases hr with hr | rfl
    · exact r2 r hr
    · exact hl
  · intro i hi hi'
    by_cases h : i < xs.length
    · rw [List.getElem_append_left h, List.getElem_append_left (by omega)]
      exact hstep _ _ (r3 i h (by omega))
    · have e : i = xs.length := by simp at hi; omega
      subst e
      simp only [List.getElem_append_right (Nat.le_refl _), Nat.sub_self, List.getElem_cons_zero]
      simp only [← r1, List.getElem_append_right (Nat.le_refl _), Nat.sub_self, List.getElem_cons_zero]
      exact hstep _ _ hx
  · have := hrow rows r4
    simpa using this
theorem ownsRow_told {w w' : World} {T : TypeId} {n m : Nat} {v v' : Value} {l1 l2 row : List Value} (h2 : w.ownsRow 0 T n v m l2) (h1 : w.ownsRow 0 T n v m l1) (h : w'.ownsRow 0 T n v' (m + 1) (l1 ++ row)) : w'.ownsRow 0 T n v' (m + 1) (l2 ++ row) := by
  have : l2 = l1 := by
    obtain ⟨p1, p2⟩ := h2
    obtain ⟨q1, q2⟩ := h1
    rcases p2 with ⟨rfl, hn⟩ | ⟨g, cap, cur, rfl, _, hg, _, _, _, ht⟩
    · rw [hn] at p1 q1
      rw [Nat.zero_mul] at p1 q1
      rw [List.eq_nil_of_length_eq_zero p1, List.eq_nil_of_length_eq_zero q1]
    · rcases q2 with ⟨e, _⟩ | ⟨g', cap', cur', e, _, hg', _, _, _, ht'⟩
      · cases e
      · cases e
        rw [hg] at hg'
        cases hg'
        rw [← ht, ← ht']
  rw [this]
  exact h
end
section
variable {P : Program} {α : Type}
theorem new_row {w : World} {e : TypeId} {row : List Value} : ∀ j u, row[j]? = some u → (w.alloc (.cells row.toArray e)).cell? ((⟨w.heap.size, 0, none⟩ : Addr).add j) = some u := by
  intro j u hj
  rw [Addr.add_lit, cell_of_row _ w.heap.size (0 + j) _ e (0, 0) (hp_new rfl), Nat.zero_add]
  simpa using hj
/-- append of one element, laid in a block of its own ahead of it: the walk's law at a goal that is held -/
theorem held_appendE {ops : Array Oper} {rest : List Oper} {o : Oper} {a : Act} {Q : Exit → Act → World → Prop} {w : World} {E : ERep α} {C : Nat → Prop} (hE : E.Ok) (t e : TypeId) (size bytes : Nat) (z : Value)
    (hinfo : (P.info? e).map (fun i => (i.zero, i.size, i.bytes)) = some (some z, size, bytes)) (ht : P.underlying t = some (.slice e)) (hzs : z.cells.size = size) (hsz : 0 < size)
    (s x : Operand) (hgd : o.guard = none) (ho : o.op = .call { callee := .builtin .append, args := #[s, x], argTypes := #[t, t] })
    (v : Value) (xs : List α) (hs : a.eval s = v) (hown : OwE e size E C w v xs) (y : α) (row : List Value) (hy : E w (Off C w v) y row)
    (hx : a.eval x = .slice (some ⟨w.heap.size, 0, none⟩) 1 1) (hl : row.length = size) (h1 : ∀ u ∈ row, u.oneCell' = true)
    (h63 : xs.length + 1 ≤ maxLen) (hbytes : (xs.length + 1) * bytes ≤ 140737488355328)
    (h : ∀ v' w', OwE e size E C w' v' (xs ++ [y]) → Adds w w' v v' → wpList P ops Q rest (a.put o.dst v') w') : Hold (wpList P ops Q (o :: rest) a (w.alloc (.cells row.toArray e))) := by
  obtain ⟨rows, r1, r2, r3, r4⟩ := hown
  refine held_append t e size bytes z hinfo ht hzs hsz s x hgd ho 0 v xs.length rows.flatten hs (r4.alloc _) ⟨w.heap.size, 0, none⟩ 1 1 row hx (by omega) new_row h1 h63 hbytes (Nat.zero_le _) ?_
  intro v' w' ho' ha
  have ha' := Adds.ahead ((Upd.refl _ _).alloc _) ha
  exact h v' w' (OwE.push hE ⟨rows, r1, r2, r3, r4⟩ hy hl (fun rows2 h2 => ownsRow_told h2 r4 ho') ha') ha'
/-- the same as a step of a region that draws its order; other steps may lie between the element's block and it -/
theorem step_appendE {ops : Array Oper} {o : Oper} {a : Act} {Q : Exit → Act → World → Prop} {w w0 : World} {K : Act → World → Prop} {E' : Prop} {E : ERep α} {C : Nat → Prop} (hE : E.Ok) (t e : TypeId) (size bytes : Nat) (z : Value)
    (hinfo : (P.info? e).map (fun i => (i.zero, i.size, i.bytes)) = some (some z, size, bytes)) (ht : P.underlying t = some (.slice e)) (hzs : z.cells.size = size) (hsz : 0 < size)
    (s x : Operand) (hwt : Region.wanted o (yielded ops a.tmps) = true) (ho : o.op = .call { callee := .builtin .append, args := #[s, x], argTypes := #[t, t] })
    (v : Value) (xs : List α) (hs : a.eval s = v) (hown : OwE e size E C w v xs) (y : α) (row : List Value) (hy : E w (Off C w v) y row) (hn0 : New (w0.alloc (.cells row.toArray e)) w)
    (hx : a.eval x = .slice (some ⟨w0.heap.size, 0, none⟩) 1 1) (hl : row.length = size) (h1 : ∀ u ∈ row, u.oneCell' = true)
    (h63 : xs.length + 1 ≤ maxLen) (hbytes : (xs.length + 1) * bytes ≤ 140737488355328)
    (h : ∀ v' w', OwE e size E C w' v' (xs ++ [y]) → Adds w w' v v' → K (a.put o.dst v') w') :
    if Region.wanted o (yielded ops a.tmps) = true then Oper.wp P o a w K Q else E' := by
  obtain ⟨rows, r1, r2, r3, r4⟩ := hown
  refine step_append t e size bytes z hinfo ht hzs hsz s x hwt ho 0 v xs.length rows.flatten hs r4 ⟨w0.heap.size, 0, none⟩ 1 1 row hx (by omega) (fun j u hj => hn0.cell (new_row j u hj) (fun h => h)) h1 h63 hbytes (Nat.zero_le _) ?_
  intro v' w' ho' ha
  exact h v' w' (OwE.push hE ⟨rows, r1, r2, r3, r4⟩ hy hl (fun rows2 h2 => ownsRow_told h2 r4 ho') ha) ha
end
end Go.Proofs.Own

namespace Go.Proofs.Own
open Go Go.RowKit
theorem RdE.tail {α : Type} {n : Nat} {E : ERep α} {w : World} {B : Nat → Prop} {b o cap : Nat} {xs : List α} (h : RdE n E w B (.slice (some ⟨b, o, none⟩) xs.length cap) xs) (i : Nat) (hi : i ≤ xs.length) :
    RdE n E w B (.slice (some ⟨b, o + i * n, none⟩) (xs.length - i) (cap - i)) (xs.drop i) := by
  obtain ⟨a, cap', e, h1, h2, h3, h4⟩ := h
  cases e
  refine ⟨some ⟨b, o + i * n, none⟩, cap - i, by simp, by simp; omega, (fun h => by cases h), ?_, fun hne => ⟨b, o + i * n, rfl, fun j hj => ?_⟩⟩
  · intro k hk
    cases hk
    exact h3 b rfl
  · have hj' : i + j < xs.length := by simp at hj; omega
    obtain ⟨b', o', e, hc⟩ := h4 (by intro hx; subst hx; simp at hj')
    cases e
    obtain ⟨row, r1, r2, r3⟩ := hc (i + j) hj'
    refine ⟨row, r1, by simpa using r2, fun k u hk => ?_⟩
    have := r3 k u hk
    have e2 : o + (i + j) * n + k = o + i * n + j * n + k := by rw [Nat.add_mul]; omega
    rw [e2] at this
    exact this
theorem RdE.empty {α : Type} {n : Nat} {E : ERep α} {w : World} {B : Nat → Prop} {b o cap : Nat} {xs : List α} (h : RdE n E w B (.slice (some ⟨b, o, none⟩) xs.length cap) xs) (o' c' : Nat) :
    RdE n E w B (.slice (some ⟨b, o', none⟩) 0 c') [] := by
  obtain ⟨a, cap', e, h1, h2, h3, h4⟩ := h
  cases e
  refine ⟨some ⟨b, o', none⟩, c', rfl, Nat.zero_le _, (fun h => by cases h), ?_, fun hne => absurd rfl hne⟩
  intro k hk
  cases hk
  exact h3 b rfl
end Go.Proofs.Own
