import Derived.Test.YtnngibflnnmioaaChecked
import Derived.Test.YtnngibflnnmioaaLeb
import Derived.Test.YtnngibflnnmioaaBase
namespace Go.Proofs.Ytnngibflnnmioaa
open Go.RowKit Go.Proofs.Leb Go.Proofs.Own

/-- the byte type's row -/
theorem info5 : (Try.prog.info? 5).map (fun i => (i.zero, i.size, i.bytes)) = some (some (.int .u8 0), 1, 1) := by kernel_rfl

/-- a byte, as a cell -/
def cb (x : UInt8) : Value := .int .u8 x.toNat
/-- v is a row of bytes that the call owns -/
def Bytes (w : World) (v : Value) (bs : List UInt8) : Prop := w.ownsRow 0 5 1 v bs.length (bs.map cb)

theorem Bytes.one {w : World} {v : Value} {bs : List UInt8} (n : Int) (x : UInt8) (h : n = x.toNat) (hw : w.ownsRow 0 5 1 v (bs.length + 1) (bs.map cb ++ [.int .u8 n])) : Bytes w v (bs ++ [x]) := by
  subst h
  unfold Bytes
  rw [List.length_append, List.map_append]
  exact hw

theorem or128_fin : ∀ b : Fin 256, b.val ||| 128 = b.val % 128 + 128 := by decide +kernel
theorem or128 (x : Nat) : bits .or .u8 ((x : Int) % 256) 128 = ((x % 128 + 128 : Nat) : Int) := by
  have e : ((x : Int) % 256) = ((x % 256 : Nat) : Int) := by omega
  rw [e]
  have := u8_or_nat (x % 256) 128 (by omega) (by omega)
  rw [show ((128 : Nat) : Int) = 128 from rfl] at this
  rw [this]
  have := or128_fin ⟨x % 256, by omega⟩
  simp only at this
  rw [this]
  congr 1
  omega
theorem or128i (x : Int) : bits .or .u8 (x % 256) 128 = x % 128 + 128 := by
  have h := or128 (x % 256).toNat
  have e : (((x % 256).toNat : Nat) : Int) % 256 = x % 256 := by omega
  rw [e] at h
  rw [h]
  omega
theorem and127i (x : Int) : bits .and .u8 (x % 256) 127 = x % 128 := by
  have e : (x % 256) = (((x % 256).toNat : Nat) : Int) := by omega
  rw [e]
  have h := u8_and_nat (x % 256).toNat 127 (by omega) (by omega)
  rw [show ((127 : Nat) : Int) = 127 from rfl] at h
  rw [h, nat_mask7]
  omega
theorem tmod128 (y : Int) (h : y < 0) : y.tmod 128 = if y % 128 = 0 then 0 else y % 128 - 128 := by
  have e : y.tmod 128 = -((-y).tmod 128) := by rw [Int.neg_tmod, Int.neg_neg]
  rw [e, Int.tmod_eq_emod_of_nonneg (by omega)]
  split <;> omega
theorem tdiv128 (y : Int) : (y - y % 128).tdiv 128 = y / 128 := by
  have e : y - y % 128 = y / 128 * 128 := by omega
  rw [e, Int.mul_tdiv_cancel _ (by decide)]
theorem hid {p : Prop} (h : p) : Hid p := h

/-- a slice of bytes that can be read -/
def Rd (w : World) (v : Value) (bs : List UInt8) : Prop :=
  ∃ a cap, v = .slice a bs.length cap ∧ bs.length ≤ cap ∧ (a = none → cap = 0) ∧ (bs ≠ [] → ∃ b o, a = some ⟨b, o, none⟩ ∧ ∀ i (h : i < bs.length), w.cell? ⟨b, o + i, none⟩ = some (cb bs[i]))

theorem Rd.shape {w : World} {v : Value} {bs : List UInt8} (h : Rd w v bs) : ∃ a cap, v = .slice a bs.length cap := by
  obtain ⟨a, cap, h, -⟩ := h
  exact ⟨a, cap, h⟩
theorem Rd.nil (w : World) : Rd w (.slice none 0 0) [] := ⟨none, 0, rfl, Nat.le_refl _, fun _ => rfl, fun h => absurd rfl h⟩
theorem Rd.upd {S : Nat → Prop} {w w' : World} {v : Value} {bs : List UInt8} (h : Rd w v bs) (hu : Upd S w w') (hn : ∀ k, v.ownBlock = some k → ¬ S k) : Rd w' v bs := by
  obtain ⟨a, cap, rfl, h1, h2, h3⟩ := h
  refine ⟨a, cap, rfl, h1, h2, fun hb => ?_⟩
  obtain ⟨b, o, rfl, hc⟩ := h3 hb
  exact ⟨b, o, rfl, fun i hi => hu.cell (hc i hi) (hn b rfl)⟩
theorem Rd.new {w w' : World} {v : Value} {bs : List UInt8} (h : Rd w v bs) (hu : New w w') : Rd w' v bs := h.upd hu (fun _ _ h => h)
theorem Bytes.rd {w : World} {v : Value} {bs : List UInt8} (h : Bytes w v bs) : Rd w v bs := by
  obtain ⟨h1, h2⟩ := h
  rcases h2 with ⟨rfl, hn⟩ | ⟨g, cap, cur, rfl, _, hg, hn, hm, hs, ht⟩
  · have : bs = [] := List.eq_nil_of_length_eq_zero hn
    subst this
    exact Rd.nil w
  · refine ⟨_, cap, rfl, hn, (fun h => by cases h), fun _ => ⟨g, 0, rfl, fun i hi => ?_⟩⟩
    have hown : w.ownsRow 0 5 1 (.slice (some ⟨g, 0, none⟩) bs.length cap) bs.length (bs.map cb) := ⟨h1, .inr ⟨g, cap, cur, rfl, Nat.zero_le _, hg, hn, hm, hs, ht⟩⟩
    have := hown.cells (g := g) rfl i (cb bs[i]) (by simp [hi])
    rwa [Addr.add_lit] at this
theorem Bytes.upd {S : Nat → Prop} {w w' : World} {v : Value} {bs : List UInt8} (h : Bytes w v bs) (hu : Upd S w w') (hn : ∀ k, v.ownBlock = some k → ¬ S k) : Bytes w' v bs := ownsRow_upd h hu hn
theorem Bytes.new {w w' : World} {v : Value} {bs : List UInt8} (h : Bytes w v bs) (hu : New w w') : Bytes w' v bs := ownsRow_new h hu
theorem Bytes.nil (w : World) : Bytes w (.slice none 0 0) [] := World.ownsRow_nil w 0 _ 1
/-- '[]byte{}' -/
theorem Bytes.made (w : World) : Bytes (w.alloc (.cells #[] 5)) (.slice (some ⟨w.heap.size, 0, none⟩) 0 0) [] :=
  World.ownsRow_made w #[] 0 (Nat.zero_le _) (Nat.zero_le _) rfl

/-- append of one byte, at a goal that is held -/
theorem appB {ops : Array Oper} {rest : List Oper} {o : Oper} {a : Act} {Q : Exit → Act → World → Prop} {w : World} (s x : Operand) (u : UInt8) {v : Value} {d : List UInt8} {n : Int}
    (hb : Bytes w v d) (hn : n = u.toNat) (hl : d.length ≤ 1000000000) (hgd : o.guard = none) (ho : o.op = .call { callee := .builtin .append, args := #[s, x], argTypes := #[39, 39] })
    (hs : a.eval s = v) (hx : a.eval x = .slice (some ⟨w.heap.size, 0, none⟩) 1 1)
    (h : ∀ v' w', Bytes w' v' (d ++ [u]) → Adds w w' v v' → wpList Try.prog ops Q rest (a.put o.dst v') w') :
    Hold (wpList Try.prog ops Q (o :: rest) a (w.alloc (.cells #[.int .u8 n] 5))) :=
  held_append1 39 5 1 (.int .u8 0) info5 Try.underlying39 rfl s x hgd ho 0 v _ _ hs hb (.int .u8 n) hx rfl (by unfold maxLen; omega) (by omega) (Nat.zero_le _)
    fun v' w' h1 h2 => h v' w' (Bytes.one n u hn h1) h2

theorem cb_one (x : UInt8) : (cb x).oneCell' = true := rfl
/-- append of bytes: the run -/
theorem runR {w : World} {sv v : Value} {ds bs : List UInt8} (ty : TypeId)
    (hb : Bytes w sv ds) (hr : Rd w v bs) (hl : ds.length + bs.length ≤ 1000000000) :
    ∃ v' w', (Builtin.append_ #[39, 39] ty #[sv, v]).run Try.prog w = .ok v' w' ∧ Bytes w' v' (ds ++ bs) ∧ Adds w w' sv v' := by
  obtain ⟨ao, cap, rfl, h1, h2, h3⟩ := hr
  obtain ⟨i, hi, hz, hsz, hby⟩ := info_parts info5
  cases ao with
  | none =>
    have hc := h2 rfl
    subst hc
    have : bs = [] := List.eq_nil_of_length_eq_zero (by omega)
    subst this
    have hr := run_append_owned_none (P := Try.prog) w 0 39 ty 5 i 1 Try.underlying39 hi sv ds.length (ds.map cb) hb
    exact ⟨sv, w, hr, by simpa using hb, Adds.refl w sv⟩
  | some ad =>
    have hnews : ∀ j u, (bs.map cb)[j]? = some u → w.cell? (ad.add j) = some u := by
      intro j u hj
      have hlt : j < bs.length := by
        have := (List.getElem?_eq_some_iff.1 hj).1
        simpa using this
      obtain ⟨b, o', e, hc⟩ := h3 (by intro e; subst e; simp at hlt)
      cases e
      have hu : u = cb bs[j] := by
        simp only [List.getElem?_map, List.getElem?_eq_getElem hlt, Option.map_some, Option.some.injEq] at hj
        exact hj.symm
      subst hu
      rw [Addr.add_lit]
      exact hc j hlt
    have hone : ∀ u ∈ bs.map cb, u.oneCell' = true := by
      intro u hu
      simp only [List.mem_map] at hu
      obtain ⟨x, _, rfl⟩ := hu
      rfl
    obtain ⟨v', w', hr, ho, ha⟩ := run_append_adds (P := Try.prog) w 39 ty 5 i (.int .u8 0) 1 1 Try.underlying39 hi hz hsz hby rfl (by decide) 0 sv ds.length (ds.map cb) hb
      ad bs.length cap (bs.map cb) (by simp) hnews hone (by unfold maxLen; omega) (by omega) (Nat.zero_le _)
    refine ⟨v', w', hr, ?_, ha⟩
    unfold Bytes
    rw [List.length_append, List.map_append]
    exact ho

/-- append of bytes, at a goal that is held -/
theorem appR {ops : Array Oper} {rest : List Oper} {o : Oper} {a : Act} {Q : Exit → Act → World → Prop} {w : World} (s x : Operand) {sv v : Value} {ds bs : List UInt8}
    (hb : Bytes w sv ds) (hr : Rd w v bs) (hl : ds.length + bs.length ≤ 1000000000) (hgd : o.guard = none) (ho : o.op = .call { callee := .builtin .append, args := #[s, x], argTypes := #[39, 39] })
    (hs : a.eval s = sv) (hx : a.eval x = v)
    (h : ∀ v' w', Bytes w' v' (ds ++ bs) → Adds w w' sv v' → wpList Try.prog ops Q rest (a.put o.dst v') w') :
    Hold (wpList Try.prog ops Q (o :: rest) a w) := by
  obtain ⟨v', w', hr, ho', ha⟩ := runR o.type hb hr hl
  refine wpList_plain hgd fun K hK => ?_
  unfold Oper.wp execOp
  simp only [ho, resolve, invoke, builtin, Sem.run_bind, Sem.run_pure, Result.andThen_ok, List.map_toArray, List.map_cons, List.map_nil, hs, hx, hr]
  exact hK _ _ (h v' w' ho' ha)

/-- append of bytes, as one step of a region that draws its order -/
theorem stepR {ops : Array Oper} {o : Oper} {a : Act} {w : World} {K : Act → World → Prop} {Q : Exit → Act → World → Prop} {E : Prop} (s x : Operand) {sv v : Value} {ds bs : List UInt8}
    (hb : Bytes w sv ds) (hr : Rd w v bs) (hl : ds.length + bs.length ≤ 1000000000) (hw : Region.wanted o (yielded ops a.tmps) = true)
    (ho : o.op = .call { callee := .builtin .append, args := #[s, x], argTypes := #[39, 39] }) (hs : a.eval s = sv) (hx : a.eval x = v)
    (h : ∀ v' w', Bytes w' v' (ds ++ bs) → Adds w w' sv v' → K (a.put o.dst v') w') :
    if Region.wanted o (yielded ops a.tmps) = true then Oper.wp Try.prog o a w K Q else E := by
  obtain ⟨v', w', hr, ho', ha⟩ := runR o.type hb hr hl
  rw [if_pos hw]
  unfold Oper.wp execOp
  simp only [ho, resolve, invoke, builtin, Sem.run_bind, Sem.run_pure, Result.andThen_ok, List.map_toArray, List.map_cons, List.map_nil, hs, hx, hr]
  exact h v' w' ho' ha

/-- what comes back is a new row -/
def PostN (w : World) (bs : List UInt8) (e : Ending) (w' : World) : Prop := ∃ v', e = .returned v' ∧ Bytes w' v' bs ∧ New w w' ∧ Fresh w v'

def Post (w : World) (v : Value) (bs : List UInt8) (e : Ending) (w' : World) : Prop := ∃ v', e = .returned v' ∧ Bytes w' v' bs ∧ Adds w w' v v'

end Go.Proofs.Ytnngibflnnmioaa
