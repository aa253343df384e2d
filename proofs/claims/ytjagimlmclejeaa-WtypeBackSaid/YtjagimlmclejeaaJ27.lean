/-
  Types that are read: what comes of it; what is wanted of numbers.
-/
import Derived.Test.YtjagimlmclejeaaJ9
import Derived.Test.YtjagimlmclejeaaJ2
import Derived.Test.YtjagimlmclejeaaJ11
import Derived.Test.YtjagimlmclejeaaJ26
namespace Go.Proofs.Ytjagimlmclejeaa
open Go.RowKit Go.Proofs.Leb Go.Proofs.Own Go.Proofs.Cur
set_option maxRecDepth 100000
set_option maxHeartbeats 4000000

theorem Blk_upd {S : Nat → Prop} {w w' : World} {g : Nat} {a b : Value} {t : TypeId} (h : Blk w g a b t) (hu : Upd S w w') (hn : ¬ S g) : Blk w' g a b t := (hu.block g h.lt hn).trans h
/-- both spans, one behind the other -/
def andS (a b : Int × Int) : Int × Int := (a.1 + b.1, Span.most a.2 b.2)
/-- so many spans, one behind the other -/
def timS (s : Int × Int) (n : Int) : Int × Int := (tm n s.1, tm n s.2)
def hasS (s : Int × Int) (r : Int) : Prop := Span.has s.1 s.2 r = true
/-- all numbers, ahead of a rest that is in the span -/
def idxS (s : Int × Int) (r : Int) (_ : Nat) : Prop := hasS s r
/-- all counts of items -/
def cntS (i s : Int × Int) (r : Int) (n : Nat) : Prop := Span.makes i.1 i.2 s.1 s.2 r n = true
def OkS (s : Int × Int) : Prop := Span.wide s.1 s.2 ∧ s.2 ≤ 9223372036854775807
noncomputable def numI (bs : List UInt8) (lim : Int) (S : Int → Nat → Prop) (p : Nat) : Out Nat := (uintO bs lim S p).bind fun ds q => .ok (val ds) q
/-- so many items, one behind the other; each is told how many come behind it -/
def seqO {α : Type} (f : Nat → Nat → Out α) : Nat → List α → Nat → Out (List α)
  | 0, acc, p => .ok acc p
  | m + 1, acc, p => (f m p).bind fun a q => seqO f m (acc ++ [a]) q
noncomputable def valO (bs : List UInt8) (lim : Int) (ok : Int → Bool) (p : Nat) : Out UInt8 := byteO bs lim (fun x _ => ok x.toNat = true) p
noncomputable def valsO (bs : List UInt8) (lim : Int) (s : Int × Int) (p : Nat) : Out (List UInt8) :=
  (numI bs lim (cntS (1, 1) s) p).bind fun n q => seqO (fun _ => valO bs lim valV) n [] q
noncomputable def funcO (bs : List UInt8) (lim : Int) (s : Int × Int) (p : Nat) : Out (List UInt8 × List UInt8) :=
  (byteO bs lim (fun x r => x = 96 ∧ hasS (andS (1, 1099511627776) (andS (1, 1099511627776) s)) r) p).bind fun _ q =>
  (valsO bs lim (andS (1, 1099511627776) s) q).bind fun ps q => (valsO bs lim s q).bind fun rs q => .ok (ps, rs) q
noncomputable def limitsO (bs : List UInt8) (lim : Int) (s : Int × Int) (p : Nat) : Out (Bool × Nat × Nat) :=
  (byteO bs lim (fun x r => x = 0 ∧ hasS (andS (1, 5) s) r ∨ x = 1 ∧ hasS (andS (1, 5) (andS (1, 5) s)) r) p).bind fun x q =>
  if x = 1 then (numI bs lim (idxS (andS (1, 5) s)) q).bind fun mn q => (numI bs lim (idxS s) q).bind fun mx q => .ok (true, mn, mx) q
  else (numI bs lim (idxS s) q).bind fun mn q => .ok (false, mn, 0) q
noncomputable def tableO (bs : List UInt8) (lim : Int) (s : Int × Int) (p : Nat) : Out (UInt8 × Bool × Nat × Nat) :=
  (byteO bs lim (fun x r => refV x.toNat = true ∧ hasS (andS (2, 11) s) r) p).bind fun e q => (limitsO bs lim s q).bind fun l q => .ok (e, l) q
noncomputable def globO (bs : List UInt8) (lim : Int) (p : Nat) : Out (UInt8 × Bool) :=
  (valO bs lim valV p).bind fun t q => (byteO bs lim (fun x _ => x.toNat < 2) q).bind fun m q => .ok (t, decide (m = 1)) q

theorem OkS.and {a s : Int × Int} (h : OkS s) (h1 : 0 ≤ a.1) (h2 : a.1 ≤ a.2) (h3 : a.1 + s.1 ≤ 549755813888) (h4 : a.2 + s.2 ≤ 549755813888 ∨ 1099511627776 ≤ a.2 ∨ 1099511627776 ≤ s.2) : OkS (andS a s) := by
  obtain ⟨⟨k1, k2, k3, k4⟩, k5⟩ := h
  unfold OkS andS Span.wide Span.most
  simp only
  split <;> omega

/-- what is read out of memory, in memory -/
def GotR {α : Type} (C : Nat) (v : Value) (bs : List UInt8) (lim : Int) (R : World → α → Value → Prop) (o : Out α) (w : World) (e : Ending) (w' : World) : Prop :=
  Upd (· = C) w w' ∧ match o with
    | .ok a q => ∃ u, e = .returned u ∧ R w' a u ∧ Cur w' C v bs q lim 0
    | .up q er => e = .panicked [{ v := gave C, recovered := false }] ∧ Cur w' C v bs q lim er
theorem GotR.mk_ok {α : Type} {C : Nat} {v : Value} {bs : List UInt8} {lim : Int} {R : World → α → Value → Prop} {o : Out α} {w : World} {e : Ending} {w' : World} {a : α} {q : Nat} {u : Value} (h : o = .ok a q)
    (hu : Upd (· = C) w w') (he : e = .returned u) (hr : R w' a u) (hc : Cur w' C v bs q lim 0) : GotR C v bs lim R o w e w' := by subst h; exact ⟨hu, u, he, hr, hc⟩
theorem GotR.mk_up {α : Type} {C : Nat} {v : Value} {bs : List UInt8} {lim : Int} {R : World → α → Value → Prop} {o : Out α} {w : World} {e : Ending} {w' : World} {q er : Nat} (h : o = .up q er)
    (hu : Upd (· = C) w w') (he : e = .panicked [{ v := gave C, recovered := false }]) (hc : Cur w' C v bs q lim er) : GotR C v bs lim R o w e w' := by subst h; exact ⟨hu, he, hc⟩

/-- all numbers, as a want -/
def idxW (s : Int × Int) (r : Int) : List (Nat × Nat) := if Span.has s.1 s.2 r = true then [(0, 4294967295)] else []
theorem idx_in (s : Int × Int) (r : Int) (n : Nat) (hn : n < 4294967296) : inW (idxW s) r n ↔ idxS s r n := by
  unfold inW idxW idxS hasS
  by_cases h : Span.has s.1 s.2 r = true
  · rw [if_pos h]
    simp only [List.mem_singleton, exists_eq_left, h, iff_true]
    omega
  · rw [if_neg h]
    simp [h]
theorem idx_few (s : Int × Int) (r : Int) : Few (idxW s r) := by
  unfold idxW
  split
  · exact few1 _ _ (by decide) (by decide)
  · exact ⟨by simp, fun i hi => by simp at hi⟩
theorem Idx1_any (Bb : Nat) (s : Int × Int) (r : Int) (w : World) (k0 : w.cell? ⟨Bb, 0, none⟩ = some (.int .i64 s.1)) (k1 : w.cell? ⟨Bb, 1, none⟩ = some (.int .i64 s.2)) :
    Wants 83 #[.pointer (some ⟨Bb, 0, none⟩)] (idxW s) r w := by
  obtain ⟨b1, b2⟩ := s
  have HH := hid (fun w => has_any b1 b2 r w)
  unfold Wants
  simp only at *
  cases h : Span.has b1 b2 r with
  | true =>
    have HW : Hid (idxW (b1, b2) r = [(0, 4294967295)]) := if_pos h
    rw [h] at HH
    clear h
    go_enter Try.func83, Try.ntmps83
    go_wp2_with fail
    refine (HH.out _).mono ?_
    rintro e w1 ⟨rfl, hn⟩
    have HN := hid hn
    clear hn k0 k1
    go_wp2_with fail
    go_ret
    refine ⟨_, rfl, ?_, HN.out.alloc _⟩
    rw [HW.out]
    exact RdP.one _ 0 4294967295 _
  | false =>
    have HW : Hid (idxW (b1, b2) r = []) := if_neg (by rw [h]; decide)
    rw [h] at HH
    clear h
    go_enter Try.func83, Try.ntmps83
    go_wp2_with fail
    refine (HH.out _).mono ?_
    rintro e w1 ⟨rfl, hn⟩
    have HN := hid hn
    clear hn k0 k1
    go_wp2_with fail
    go_ret
    refine ⟨_, rfl, ?_, HN.out⟩
    rw [HW.out]
    exact ⟨none, 0, rfl, Nat.le_refl _, fun _ => rfl, fun h => absurd rfl h⟩
/-- counts, as a want -/
def cntW (i s : Int × Int) (r : Int) : List (Nat × Nat) := [((Span.counts i.1 i.2 s.1 s.2 r).1.toNat, (Span.counts i.1 i.2 s.1 s.2 r).2.toNat)]
theorem cnt_in {i s : Int × Int} {r : Int} {n : Nat} (hi : Span.item i.1 i.2) (hs : OkS s) (h0 : 0 ≤ r) (h1 : r ≤ 1099511627776) (hn : n < 4294967296) : inW (cntW i s) r n ↔ cntS i s r n := by
  have hc := counts_small i.1 i.2 s.1 s.2 r
  unfold cntS
  rw [Span.counts_makes hi hs.1 h0 h1 (by omega) (by omega)]
  unfold inW cntW
  simp only [List.mem_singleton, exists_eq_left]
  omega
theorem cnt_few (i s : Int × Int) (r : Int) : Few (cntW i s r) := few1 _ _ (by have := counts_small i.1 i.2 s.1 s.2 r; omega) (by have := counts_small i.1 i.2 s.1 s.2 r; omega)
theorem List1_any (Ba Bb : Nat) (i s : Int × Int) (r : Int) (w : World) (hi : Span.item i.1 i.2) (hs : OkS s) (h0 : 0 ≤ r) (h1 : r ≤ 1099511627776)
    (j0 : w.cell? ⟨Ba, 0, none⟩ = some (.int .i64 i.1)) (j1 : w.cell? ⟨Ba, 1, none⟩ = some (.int .i64 i.2)) (k0 : w.cell? ⟨Bb, 0, none⟩ = some (.int .i64 s.1)) (k1 : w.cell? ⟨Bb, 1, none⟩ = some (.int .i64 s.2)) :
    Wants 84 #[.pointer (some ⟨Ba, 0, none⟩), .pointer (some ⟨Bb, 0, none⟩)] (cntW i s) r w := by
  have HC := hid (fun w => Counts_any i.1 i.2 s.1 s.2 r w hi hs.1 h0 h1)
  have hc := counts_small i.1 i.2 s.1 s.2 r
  obtain ⟨lo, hlo⟩ : ∃ lo : Nat, (Span.counts i.1 i.2 s.1 s.2 r).1 = lo := ⟨(Span.counts i.1 i.2 s.1 s.2 r).1.toNat, by omega⟩
  obtain ⟨hi2, hhi⟩ : ∃ hi : Nat, (Span.counts i.1 i.2 s.1 s.2 r).2 = hi := ⟨(Span.counts i.1 i.2 s.1 s.2 r).2.toNat, by omega⟩
  have HW : Hid (cntW i s r = [(lo, hi2)]) := by show _ = _; unfold cntW; rw [hlo, hhi, Int.toNat_natCast, Int.toNat_natCast]
  rw [hlo, hhi] at HC
  obtain ⟨i1, i2⟩ := i
  obtain ⟨s1, s2⟩ := s
  simp only at *
  unfold Wants
  clear hlo hhi hc hs hi
  go_enter Try.func84, Try.ntmps84
  go_wp2_with fail
  refine (HC.out _).mono ?_
  rintro e w1 ⟨rfl, hn⟩
  have HN := hid hn
  clear hn
  go_wp2_with fail
  go_ret
  refine ⟨_, rfl, ?_, ?_⟩
  · rw [HW.out]; exact RdP.one _ _ _ _
  · exact HN.out.alloc _
end Go.Proofs.Ytjagimlmclejeaa
