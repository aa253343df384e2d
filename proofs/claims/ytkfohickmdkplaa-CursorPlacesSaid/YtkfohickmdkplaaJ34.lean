/-
  The laws of the cursor: what is asked, and what comes of it; the function value that allows a byte.
-/
import Derived.Test.YtkfohickmdkplaaJ33
import Derived.Test.YtkfohickmdkplaaJ20
namespace Go.Proofs.Cur
open Go.Proofs.Leb Go.Proofs.Span

/-- something asked of a cursor -/
structure AskM where
  doo : Nat
  n : Int
  lo : Nat
  hi : Nat
  x : Wnt

/-- may a byte stand? -/
def AskM.byte (a : AskM) (x : UInt8) (_ : Int) : Prop := a.lo ≤ x.toNat ∧ x.toNat ≤ a.hi
end Go.Proofs.Cur
namespace Go.Proofs.Ytkfohickmdkplaa
open Go.RowKit Go.Proofs.Leb Go.Proofs.Own Go.Proofs.Cur Go.Proofs.Span
set_option maxRecDepth 100000
set_option maxHeartbeats 4000000

/-- what comes of one thing asked, but of a limit: the bytes of its text -/
noncomputable def askO (bs : List UInt8) (lim : Int) (a : AskM) (p : Nat) : Out (List UInt8) :=
  if a.doo % 6 = 0 then (byteO bs lim a.byte p).bind fun x q => .ok [x] q
  else if a.doo % 6 = 1 then (uintO bs lim a.x.may p).bind fun ds q => .ok (numL (val ds) 8) q
  else if a.doo % 6 = 2 then (sintO bs lim (fun r => hasR a.x.b1 a.x.b2 r) a.n.toNat p).bind fun ds q => .ok (numL (sval ds % 18446744073709551616).toNat 8) q
  else if a.doo % 6 = 3 then rawO bs lim a.n p
  else nameS bs lim (lenW a.x.b1 a.x.b2).may p
/-- what comes of all that is asked: the texts, and how it ends -/
noncomputable def allO (bs : List UInt8) : List AskM → Int → Nat → List (List UInt8) × Out Unit
  | [], _, p => ([], .ok () p)
  | a :: l, lim, p =>
    if a.doo % 6 = 5 then ((allO bs l (limO a.n lim p) p).1, withinO (limO a.n lim p) (allO bs l (limO a.n lim p) p).2)
    else match askO bs lim a p with
      | .up q e => ([], .up q e)
      | .ok s q => (s :: numL q 8 :: numL (rest lim q).toNat 8 :: (allO bs l lim q).1, (allO bs l lim q).2)

theorem asked1_any (x : UInt8) (lo hi Bx Bc C : Nat) (v : Value) (bs : List UInt8) (q : Nat) (lim : Int) (w : World) (hlo : w.cell? ⟨Bx, 2, none⟩ = some (.int .u8 lo)) (hhi : w.cell? ⟨Bx, 3, none⟩ = some (.int .u8 hi))
    (hc : w.cell? ⟨Bc, 0, none⟩ = some (.pointer (some ⟨C, 0, none⟩))) (h : Cur w C v bs q lim 0) (hi' : Inv bs.length lim q) :
    Calls Try.prog 18 #[cb x, .int .i64 (rest lim q), .pointer (some ⟨Bx, 0, none⟩), .pointer (some ⟨Bc, 0, none⟩)] w (Yes (lo ≤ x.toNat ∧ x.toNat ≤ hi) w) := by
  have HR := hid (Rest_any h hi')
  generalize rest lim q = r at *
  clear h hi'
  unfold cb
  by_cases h1 : lo ≤ x.toNat
  · have h1i : (lo : Int) ≤ (x.toNat : Int) := by omega
    by_cases h2 : x.toNat ≤ hi
    · have h2i : (x.toNat : Int) ≤ (hi : Int) := by omega
      have H1 := hid h1
      have H2 := hid h2
      clear h1 h2
      go_enter Try.func18, Try.ntmps18
      go_wp2_with fail
      refine (HR.out).mono ?_
      rintro e w1 ⟨rfl, hn⟩
      go_wp2_with fail
      go_ret
      exact ⟨true, rfl, by simp only [true_iff]; exact ⟨H1.out, H2.out⟩, hn⟩
    · have h2i : ¬ (x.toNat : Int) ≤ (hi : Int) := by omega
      have H2 := hid h2
      clear h1 h2
      go_enter Try.func18, Try.ntmps18
      go_wp2_with fail
      go_ret
      exact ⟨false, rfl, iff_of_false (by decide) (fun h => H2.out h.2), Upd.refl _ _⟩
  · have h1i : ¬ (lo : Int) ≤ (x.toNat : Int) := by omega
    have H1 := hid h1
    clear h1
    go_enter Try.func18, Try.ntmps18
    go_wp2_with fail
    go_ret
    exact ⟨false, rfl, iff_of_false (by decide) (fun h => H1.out h.1), Upd.refl _ _⟩
end Go.Proofs.Ytkfohickmdkplaa

namespace Go.Proofs.Ytkfohickmdkplaa
open Go.RowKit Go.Proofs.Leb Go.Proofs.Own Go.Proofs.Cur Go.Proofs.Span
set_option maxRecDepth 100000

theorem numO_inv {bs : List UInt8} {lim : Int} {may : List UInt8 → UInt8 → Int → Prop} {n : Nat} {ds : List UInt8} {p : Nat} {ds' : List UInt8} {q : Nat} (hi : Inv bs.length lim p) (h : numO bs lim may n ds p = .ok ds' q) : Inv bs.length lim q := by
  obtain ⟨_, _, _, _, _, _, _, g, _, _⟩ := numO_ok h
  exact g hi
theorem nameL_inv {bs : List UInt8} {lim : Int} : ∀ (k : Nat) (cur : List UInt8) (p : Nat) {x : Unit} {q : Nat}, Inv bs.length lim p → nameL bs lim k cur p = .ok x q → Inv bs.length lim q
  | 0, cur, p, x, q, hi, h => by
    unfold nameL at h
    cases h
    exact hi
  | k + 1, cur, p, x, q, hi, h => by
    unfold nameL at h
    cases hb : byteO bs lim (fun x r => mayN (k + 1) cur x r) p with
    | up q' er => rw [hb] at h; cases h
    | ok y q' =>
      rw [hb] at h
      exact nameL_inv k _ q' (byteO_inv' hi hb) h
theorem bind_ok {α β : Type} {o : Out α} {f : α → Nat → Out β} {b : β} {q : Nat} (h : o.bind f = .ok b q) : ∃ a p, o = .ok a p ∧ f a p = .ok b q := by
  cases o with
  | ok a p => exact ⟨a, p, rfl, h⟩
  | up p e => cases h
theorem rawO_inv {bs : List UInt8} {lim n : Int} {p : Nat} {s : List UInt8} {q : Nat} (hi : Inv bs.length lim p) (h : rawO bs lim n p = .ok s q) : Inv bs.length lim q := by
  unfold rawO at h
  have h1 := hi.rest
  have h2 := hi.lim
  split at h
  · rename_i hm
    cases h
    refine ⟨by omega, hi.len, ?_⟩
    unfold rest at hm h1
    split at hm <;> split at h1 <;> omega
  · split at h <;> cases h
theorem askO_inv {bs : List UInt8} {lim : Int} {a : AskM} {p : Nat} {s : List UInt8} {q : Nat} (hi : Inv bs.length lim p) (h : askO bs lim a p = .ok s q) : Inv bs.length lim q := by
  unfold askO at h
  split at h
  · obtain ⟨x, r, e, h⟩ := bind_ok h
    cases h
    exact byteO_inv' hi e
  · split at h
    · obtain ⟨x, r, e, h⟩ := bind_ok h
      cases h
      exact numO_inv hi e
    · split at h
      · obtain ⟨x, r, e, h⟩ := bind_ok h
        cases h
        exact numO_inv hi e
      · split at h
        · exact rawO_inv hi h
        · unfold nameS at h
          obtain ⟨x, r, e, h⟩ := bind_ok h
          obtain ⟨y, r', e', h⟩ := bind_ok h
          cases h
          exact nameL_inv _ _ _ (numO_inv hi e) e'
theorem withinO_inv {bs : List UInt8} {lim n : Int} {p : Nat} {o : Out Unit} {q : Nat} (hi : Inv bs.length lim p) (ho : ∀ q, o = .ok () q → Inv bs.length (limO n lim p) q) (h : withinO (limO n lim p) o = .ok () q) : Inv bs.length lim q := by
  cases o with
  | up q' er => cases h
  | ok x q' =>
    unfold withinO at h
    simp only at h
    split at h
    · rename_i h0
      cases h
      have g := ho _ rfl
      have h1 := hi.rest
      have h2 := hi.lim
      have g2 := g.lim
      refine ⟨g.place, g.len, ?_⟩
      unfold limO at *
      unfold rest at *
      split at h0 <;> split at h1 <;> omega
    · cases h
theorem allO_inv {bs : List UInt8} : ∀ (l : List AskM) (lim : Int) (p : Nat) {q : Nat}, Inv bs.length lim p → (allO bs l lim p).2 = .ok () q → Inv bs.length lim q
  | [], lim, p, q, hi, h => by
    unfold allO at h
    cases h
    exact hi
  | a :: l, lim, p, q, hi, h => by
    unfold allO at h
    split at h
    · exact withinO_inv hi (fun q hq => allO_inv l _ p (limO_inv hi) hq) h
    · cases ha : askO bs lim a p with
      | up q' er => rw [ha] at h; cases h
      | ok s q' =>
        rw [ha] at h
        exact allO_inv l lim q' (askO_inv hi ha) h
theorem allO_len {bs : List UInt8} : ∀ (l : List AskM) (lim : Int) (p : Nat), (allO bs l lim p).1.length ≤ 3 * l.length
  | [], lim, p => by unfold allO; simp
  | a :: l, lim, p => by
    unfold allO
    split
    · have := allO_len (bs := bs) l (limO a.n lim p) p
      simp only [List.length_cons]
      omega
    · cases ha : askO bs lim a p with
      | up q' er => simp
      | ok s q' =>
        have := allO_len (bs := bs) l lim q'
        simp only [List.length_cons]
        omega
end Go.Proofs.Ytkfohickmdkplaa

namespace Go.Proofs.Ytkfohickmdkplaa
open Go.RowKit Go.Proofs.Leb Go.Proofs.Own Go.Proofs.Cur
set_option maxRecDepth 100000

theorem infoStr : (Try.prog.info? 9).map (fun i => (i.zero, i.size, i.bytes)) = some (some (.string ⟨#[]⟩), 1, 16) := by kernel_rfl
/-- a row of texts that can be read -/
def RdT (w : World) (v : Value) (bs : List (List UInt8)) : Prop :=
  ∃ a cap, v = .slice a bs.length cap ∧ bs.length ≤ cap ∧ (a = none → cap = 0) ∧ (bs ≠ [] → ∃ b o, a = some ⟨b, o, none⟩ ∧ ∀ i (h : i < bs.length), w.cell? ⟨b, o + i, none⟩ = some (strV bs[i]))

/-- a row of texts that the call owns -/
def Texts (w : World) (v : Value) (ts : List (List UInt8)) : Prop := w.ownsRow 0 9 1 v ts.length (ts.map strV)
theorem RdT.shape {w : World} {v : Value} {bs : List (List UInt8)} (h : RdT w v bs) : ∃ a cap, v = .slice a bs.length cap := by
  obtain ⟨a, cap, h, -⟩ := h
  exact ⟨a, cap, h⟩
theorem RdT.nil (w : World) : RdT w (.slice none 0 0) [] := ⟨none, 0, rfl, Nat.le_refl _, fun _ => rfl, fun h => absurd rfl h⟩
theorem RdT.upd {S : Nat → Prop} {w w' : World} {v : Value} {bs : List (List UInt8)} (h : RdT w v bs) (hu : Upd S w w') (hn : ∀ k, v.ownBlock = some k → ¬ S k) : RdT w' v bs := by
  obtain ⟨a, cap, rfl, h1, h2, h3⟩ := h
  refine ⟨a, cap, rfl, h1, h2, fun hb => ?_⟩
  obtain ⟨b, o, rfl, hc⟩ := h3 hb
  exact ⟨b, o, rfl, fun i hi => hu.cell (hc i hi) (hn b rfl)⟩
theorem RdT.new {w w' : World} {v : Value} {bs : List (List UInt8)} (h : RdT w v bs) (hu : New w w') : RdT w' v bs := h.upd hu (fun _ _ h => h)
theorem Texts.rd {w : World} {v : Value} {bs : List (List UInt8)} (h : Texts w v bs) : RdT w v bs := by
  obtain ⟨h1, h2⟩ := h
  rcases h2 with ⟨rfl, hn⟩ | ⟨g, cap, cur, rfl, _, hg, hn, hm, hs, ht⟩
  · have : bs = [] := List.eq_nil_of_length_eq_zero hn
    subst this
    exact RdT.nil w
  · refine ⟨_, cap, rfl, hn, (fun h => by cases h), fun _ => ⟨g, 0, rfl, fun i hi => ?_⟩⟩
    have hown : w.ownsRow 0 9 1 (.slice (some ⟨g, 0, none⟩) bs.length cap) bs.length (bs.map strV) := ⟨h1, .inr ⟨g, cap, cur, rfl, Nat.zero_le _, hg, hn, hm, hs, ht⟩⟩
    have := hown.cells (g := g) rfl i (strV bs[i]) (by simp [hi])
    rwa [Addr.add_lit] at this
theorem Texts.upd {S : Nat → Prop} {w w' : World} {v : Value} {bs : List (List UInt8)} (h : Texts w v bs) (hu : Upd S w w') (hn : ∀ k, v.ownBlock = some k → ¬ S k) : Texts w' v bs := ownsRow_upd h hu hn
theorem Texts.new {w w' : World} {v : Value} {bs : List (List UInt8)} (h : Texts w v bs) (hu : New w w') : Texts w' v bs := ownsRow_new h hu
theorem Texts.nil (w : World) : Texts w (.slice none 0 0) [] := World.ownsRow_nil w 0 _ 1
/-- '[]byte{}' -/
theorem Texts.made (w : World) : Texts (w.alloc (.cells #[] 9)) (.slice (some ⟨w.heap.size, 0, none⟩) 0 0) [] :=
  World.ownsRow_made w #[] 0 (Nat.zero_le _) (Nat.zero_le _) rfl

theorem strV_one (x : List UInt8) : (strV x).oneCell' = true := rfl
/-- append of bytes: the run -/
theorem runT {w : World} {sv v : Value} {ds bs : List (List UInt8)} (ty : TypeId)
    (hb : Texts w sv ds) (hr : RdT w v bs) (hl : ds.length + bs.length ≤ 1000000) :
    ∃ v' w', (Builtin.append_ #[25, 25] ty #[sv, v]).run Try.prog w = .ok v' w' ∧ Texts w' v' (ds ++ bs) ∧ Adds w w' sv v' := by
  obtain ⟨ao, cap, rfl, h1, h2, h3⟩ := hr
  obtain ⟨i, hi, hz, hsz, hby⟩ := info_parts infoStr
  cases ao with
  | none =>
    have hc := h2 rfl
    subst hc
    have : bs = [] := List.eq_nil_of_length_eq_zero (by omega)
    subst this
    have hr := run_append_owned_none (P := Try.prog) w 0 25 ty 9 i 1 Try.underlying25 hi sv ds.length (ds.map strV) hb
    exact ⟨sv, w, hr, by simpa using hb, Adds.refl w sv⟩
  | some ad =>
    have hnews : ∀ j u, (bs.map strV)[j]? = some u → w.cell? (ad.add j) = some u := by
      intro j u hj
      have hlt : j < bs.length := by
        have := (List.getElem?_eq_some_iff.1 hj).1
        simpa using this
      obtain ⟨b, o', e, hc⟩ := h3 (by intro e; subst e; simp at hlt)
      cases e
      have hu : u = strV bs[j] := by
        simp only [List.getElem?_map, List.getElem?_eq_getElem hlt, Option.map_some, Option.some.injEq] at hj
        exact hj.symm
      subst hu
      rw [Addr.add_lit]
      exact hc j hlt
    have hone : ∀ u ∈ bs.map strV, u.oneCell' = true := by
      intro u hu
      simp only [List.mem_map] at hu
      obtain ⟨x, _, rfl⟩ := hu
      rfl
    obtain ⟨v', w', hr, ho, ha⟩ := run_append_adds (P := Try.prog) w 25 ty 9 i (.string ⟨#[]⟩) 1 16 Try.underlying25 hi hz hsz hby rfl (by decide) 0 sv ds.length (ds.map strV) hb
      ad bs.length cap (bs.map strV) (by simp) hnews hone (by unfold maxLen; omega) (by omega) (Nat.zero_le _)
    refine ⟨v', w', hr, ?_, ha⟩
    unfold Texts
    rw [List.length_append, List.map_append]
    exact ho

/-- append of bytes, at a goal that is held -/
theorem appT {ops : Array Oper} {rest : List Oper} {o : Oper} {a : Act} {Q : Exit → Act → World → Prop} {w : World} (s x : Operand) {sv v : Value} {ds bs : List (List UInt8)}
    (hb : Texts w sv ds) (hr : RdT w v bs) (hl : ds.length + bs.length ≤ 1000000) (hgd : o.guard = none) (ho : o.op = .call { callee := .builtin .append, args := #[s, x], argTypes := #[25, 25] })
    (hs : a.eval s = sv) (hx : a.eval x = v)
    (h : ∀ v' w', Texts w' v' (ds ++ bs) → Adds w w' sv v' → wpList Try.prog ops Q rest (a.put o.dst v') w') :
    Hold (wpList Try.prog ops Q (o :: rest) a w) := by
  obtain ⟨v', w', hr, ho', ha⟩ := runT o.type hb hr hl
  refine wpList_plain hgd fun K hK => ?_
  unfold Oper.wp execOp
  simp only [ho, resolve, invoke, builtin, Sem.run_bind, Sem.run_pure, Result.andThen_ok, List.map_toArray, List.map_cons, List.map_nil, hs, hx, hr]
  exact hK _ _ (h v' w' ho' ha)

/-- append of bytes, as one step of a region that draws its order -/
theorem stepT {ops : Array Oper} {o : Oper} {a : Act} {w : World} {K : Act → World → Prop} {Q : Exit → Act → World → Prop} {E : Prop} (s x : Operand) {sv v : Value} {ds bs : List (List UInt8)}
    (hb : Texts w sv ds) (hr : RdT w v bs) (hl : ds.length + bs.length ≤ 1000000) (hw : Region.wanted o (yielded ops a.tmps) = true)
    (ho : o.op = .call { callee := .builtin .append, args := #[s, x], argTypes := #[25, 25] }) (hs : a.eval s = sv) (hx : a.eval x = v)
    (h : ∀ v' w', Texts w' v' (ds ++ bs) → Adds w w' sv v' → K (a.put o.dst v') w') :
    if Region.wanted o (yielded ops a.tmps) = true then Oper.wp Try.prog o a w K Q else E := by
  obtain ⟨v', w', hr, ho', ha⟩ := runT o.type hb hr hl
  rw [if_pos hw]
  unfold Oper.wp execOp
  simp only [ho, resolve, invoke, builtin, Sem.run_bind, Sem.run_pure, Result.andThen_ok, List.map_toArray, List.map_cons, List.map_nil, hs, hx, hr]
  exact h v' w' ho' ha

theorem RdT.lit (w : World) (ts : List (List UInt8)) (t : TypeId) : RdT (w.alloc (.cells (ts.map strV).toArray t)) (.slice (some ⟨w.heap.size, 0, none⟩) ts.length ts.length) ts := by
  refine ⟨_, _, rfl, Nat.le_refl _, (fun h => by cases h), fun _ => ⟨_, _, rfl, fun i hi => ?_⟩⟩
  have h : (w.alloc (.cells (ts.map strV).toArray t)).heap[w.heap.size]? = some (.cells (ts.map strV).toArray t) := hp_new rfl
  rw [cell_of_row _ _ (0 + i) _ _ (0, 0) h]
  simp [hi]
end Go.Proofs.Ytkfohickmdkplaa
