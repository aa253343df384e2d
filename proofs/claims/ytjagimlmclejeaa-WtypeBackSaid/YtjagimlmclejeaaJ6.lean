/-
  The cursor in memory: its place, its rest, giving up; its next byte.
-/
import Derived.Test.YtjagimlmclejeaaJ2
import Derived.Test.YtjagimlmclejeaaJ4
import Derived.Test.YtjagimlmclejeaaJ5
import Derived.Deep.RegionHeld3
import Derived.Deep.DeepCutAuto
import Derived.WalkMore
import Derived.WalkLawsBesides
namespace Go.Proofs.Ytjagimlmclejeaa
open Go.RowKit Go.Proofs.Leb Go.Proofs.Own Go.Proofs.Cur
set_option maxRecDepth 100000
set_option maxHeartbeats 2000000

theorem drewN_new (w : World) (n : Nat) : New w (w.drewN n) := ⟨rfl, rfl, rfl, Nat.le_refl _, fun _ _ _ => rfl⟩

/-- what a cursor panics with -/
def gave (C : Nat) : Value := .iface 85 (.agg #[.pointer (some ⟨C, 0, none⟩)])

theorem Rd.upd2 {S : Nat → Prop} {w w' : World} {v : Value} {bs : List UInt8} (h : Rd w v bs) (hu : Upd S w w') (hn : bs ≠ [] → ∀ k, v.ownBlock = some k → ¬ S k) : Rd w' v bs := by
  by_cases hb : bs = []
  · obtain ⟨a, cap, rfl, h1, h2, -⟩ := h
    exact ⟨a, cap, rfl, h1, h2, fun h => absurd hb h⟩
  · exact h.upd hu (hn hb)
theorem Rd.there {w : World} {v : Value} {bs : List UInt8} (h : Rd w v bs) (hb : bs ≠ []) : ∀ k, v.ownBlock = some k → k < w.heap.size := by
  obtain ⟨a, cap, rfl, h1, h2, h3⟩ := h
  obtain ⟨b, o, rfl, hc⟩ := h3 hb
  rintro k hk
  cases hk
  exact World.block_lt_of_cell? w _ (hc 0 (List.length_pos_iff.2 hb))

/-- a cursor in its block -/
structure Cur (w : World) (C : Nat) (v : Value) (bs : List UInt8) (p : Nat) (lim : Int) (er : Nat) : Prop where
  blk : w.heap[C]? = some (.cells #[v, .int .i64 p, .int .i64 lim, .int .i64 er] 83)
  rd : Rd w v bs
  apart : bs ≠ [] → v.ownBlock ≠ some C

theorem Cur.lt {w : World} {C : Nat} {v : Value} {bs : List UInt8} {p : Nat} {lim : Int} {er : Nat} (h : Cur w C v bs p lim er) : C < w.heap.size := (Array.getElem?_eq_some_iff.1 h.blk).1
theorem Cur.c0 {w : World} {C : Nat} {v : Value} {bs : List UInt8} {p : Nat} {lim : Int} {er : Nat} (h : Cur w C v bs p lim er) : w.cell? ⟨C, 0, none⟩ = some v := by
  rw [cell_of_row _ C 0 _ _ (0, 0) h.blk]; rfl
theorem Cur.c1 {w : World} {C : Nat} {v : Value} {bs : List UInt8} {p : Nat} {lim : Int} {er : Nat} (h : Cur w C v bs p lim er) : w.cell? ⟨C, 1, none⟩ = some (.int .i64 p) := by
  rw [cell_of_row _ C 1 _ _ (0, 0) h.blk]; rfl
theorem Cur.c2 {w : World} {C : Nat} {v : Value} {bs : List UInt8} {p : Nat} {lim : Int} {er : Nat} (h : Cur w C v bs p lim er) : w.cell? ⟨C, 2, none⟩ = some (.int .i64 lim) := by
  rw [cell_of_row _ C 2 _ _ (0, 0) h.blk]; rfl
theorem Cur.c3 {w : World} {C : Nat} {v : Value} {bs : List UInt8} {p : Nat} {lim : Int} {er : Nat} (h : Cur w C v bs p lim er) : w.cell? ⟨C, 3, none⟩ = some (.int .i64 er) := by
  rw [cell_of_row _ C 3 _ _ (0, 0) h.blk]; rfl
theorem Cur.f {w : World} {C : Nat} {v : Value} {bs : List UInt8} {p : Nat} {lim : Int} {er : Nat} (h : Cur w C v bs p lim er) (i : Nat) : w.frozen? ⟨C, i, none⟩ = false := by
  have := h.blk
  simp [World.frozen?, this]
theorem Cur.upd {w w' : World} {C : Nat} {v : Value} {bs : List UInt8} {p : Nat} {lim : Int} {er : Nat} {S : Nat → Prop} (h : Cur w C v bs p lim er) (hu : Upd S w w') (hC : ¬ S C) (hv : bs ≠ [] → ∀ k, v.ownBlock = some k → ¬ S k) : Cur w' C v bs p lim er :=
  ⟨(hu.block C h.lt hC).trans h.blk, h.rd.upd2 hu hv, h.apart⟩
theorem Cur.new {w w' : World} {C : Nat} {v : Value} {bs : List UInt8} {p : Nat} {lim : Int} {er : Nat} (h : Cur w C v bs p lim er) (hu : New w w') : Cur w' C v bs p lim er :=
  h.upd hu (fun h => h) (fun _ _ _ h => h)
/-- a write to the cursor's own block -/
theorem Cur.upd1 {w w' : World} {C : Nat} {v : Value} {bs : List UInt8} {p q : Nat} {lim lim' : Int} {er er' : Nat} (h : Cur w C v bs p lim er) (hu : Upd (· = C) w w')
    (hb : w'.heap[C]? = some (.cells #[v, .int .i64 q, .int .i64 lim', .int .i64 er'] 83)) : Cur w' C v bs q lim' er' :=
  ⟨hb, h.rd.upd2 hu (fun hne k e hk => h.apart hne (by rw [e, hk])), h.apart⟩
theorem updC (w : World) (C i : Nat) (u : Value) : Upd (· = C) w (w.setCell ⟨C, i, none⟩ u) := (Upd.refl (· = C) w).setCell (p := ⟨C, i, none⟩) (.inr rfl) u
theorem Cur.at1 {w : World} {C : Nat} {v : Value} {bs : List UInt8} {p : Nat} {lim : Int} {er : Nat} (h : Cur w C v bs p lim er) (q : Nat) :
    Cur (w.setCell ⟨C, 1, none⟩ (.int .i64 q)) C v bs q lim er ∧ Upd (· = C) w (w.setCell ⟨C, 1, none⟩ (.int .i64 q)) := by
  have hu : Upd (· = C) w (w.setCell ⟨C, 1, none⟩ (.int .i64 q)) := updC w C _ _
  refine ⟨h.upd1 hu ?_, hu⟩
  have := h.blk
  simp [World.setCell, Array.getElem?_modify, this]
theorem Cur.lim2 {w : World} {C : Nat} {v : Value} {bs : List UInt8} {p : Nat} {lim : Int} {er : Nat} (h : Cur w C v bs p lim er) (q : Int) :
    Cur (w.setCell ⟨C, 2, none⟩ (.int .i64 q)) C v bs p q er ∧ Upd (· = C) w (w.setCell ⟨C, 2, none⟩ (.int .i64 q)) := by
  have hu : Upd (· = C) w (w.setCell ⟨C, 2, none⟩ (.int .i64 q)) := updC w C _ _
  refine ⟨h.upd1 hu ?_, hu⟩
  have := h.blk
  simp [World.setCell, Array.getElem?_modify, this]
theorem Cur.up13 {w : World} {C : Nat} {v : Value} {bs : List UInt8} {p : Nat} {lim : Int} {er : Nat} (h : Cur w C v bs p lim er) (q er' : Nat) :
    Cur ((w.setCell ⟨C, 1, none⟩ (.int .i64 q)).setCell ⟨C, 3, none⟩ (.int .i64 er')) C v bs q lim er' ∧ Upd (· = C) w ((w.setCell ⟨C, 1, none⟩ (.int .i64 q)).setCell ⟨C, 3, none⟩ (.int .i64 er')) := by
  have hu : Upd (· = C) w ((w.setCell ⟨C, 1, none⟩ (.int .i64 q)).setCell ⟨C, 3, none⟩ (.int .i64 er')) := (updC w C 1 _).trans (updC _ C 3 _) (fun _ _ h => h)
  refine ⟨h.upd1 hu ?_, hu⟩
  have := h.blk
  simp [World.setCell, Array.getElem?_modify, this]

/-- a function value of the program is entered where it is called -/
def Enters (G : Nat) : Prop := ∀ args w, (callFunc G args).run Try.prog w = .ok (.enter G args) w

/-- a call of a function value -/
theorem upon_callv {o : Oper} {a : Act} {w : World} {K : Act → World → Prop} {Q : Exit → Act → World → Prop} {G : Nat} {args : Array Value} (hG : Enters G)
    {R : Ending → World → Prop} (hc : Calls Try.prog G args w R) (h : ∀ e w', R e w' → match e with
      | .returned v => K (a.put o.dst v) w'
      | .panicked ch => Q (.panic ch) a w'
      | .outgrown => LetsOut Q) : Oper.upon Try.prog o a K Q ((callFunc G args).run Try.prog w) := by
  rw [hG, Oper.upon_enter]
  refine hc.mono fun e w' hr => ?_
  have := h e w' hr
  cases e <;> exact this

/-- what comes of reading, in memory -/
def Got {α : Type} (C : Nat) (v : Value) (bs : List UInt8) (lim : Int) (V : α → Value) (o : Out α) (w : World) (e : Ending) (w' : World) : Prop :=
  Upd (· = C) w w' ∧ match o with
    | .ok a q => e = .returned (V a) ∧ Cur w' C v bs q lim 0
    | .up q er => e = .panicked [{ v := gave C, recovered := false }] ∧ Cur w' C v bs q lim er

theorem Rest_any {w : World} {C : Nat} {v : Value} {bs : List UInt8} {p : Nat} {lim : Int} {er : Nat} (h : Cur w C v bs p lim er) (hi : Inv bs.length lim p) :
    Calls Try.prog 54 #[.pointer (some ⟨C, 0, none⟩)] w fun e w' => e = .returned (.int .i64 (rest lim p)) ∧ New w w' := by
  have c1 := h.c1
  have c2 := h.c2
  have i1 := hi.place
  have i2 := hi.len
  have i3 := hi.lim
  by_cases hl : lim = -1
  · subst hl
    go_enter Try.func54, Try.ntmps54
    go_wp2
    go_ret
    exact ⟨rfl, Upd.refl _ _⟩
  · have hb : (lim == -1) = false := by simpa using hl
    have e : rest lim p = lim - p := by unfold rest; rw [if_neg hl]
    have HE := hid e
    have l1 : (p : Int) ≤ lim := by omega
    have l2 : lim ≤ p + 1099511627776 := by omega
    clear i3 hl e
    go_enter Try.func54, Try.ntmps54
    go_wp2_with fail
    go_quiet (fail)
    go_wp2_with fail
    go_ret
    exact ⟨by rw [HE.out]; rfl, drewN_new _ _⟩
theorem giveUp_any {w : World} {C : Nat} {v : Value} {bs : List UInt8} {p : Nat} {lim : Int} {er : Nat} (h : Cur w C v bs p lim er) (q er' : Nat) :
    Calls Try.prog 55 #[.pointer (some ⟨C, 0, none⟩), .int .i64 q, .int .i64 er'] w fun e w' =>
      e = .panicked [{ v := gave C, recovered := false }] ∧ Cur w' C v bs q lim er' ∧ Upd (· = C) w w' := by
  have c1 := h.c1
  have c3 := h.c3
  have f1 := h.f 1
  have f3 := h.f 3
  have HU := hid (h.up13 q er')
  go_enter Try.func55, Try.ntmps55
  go_wp2
  exact ⟨rfl, rfl, HU.out⟩
theorem goOn_any {w : World} {C : Nat} {v : Value} {bs : List UInt8} {p : Nat} {lim : Int} (h : Cur w C v bs p lim 0) :
    Calls Try.prog 52 #[.pointer (some ⟨C, 0, none⟩)] w fun e w' => e = .returned (.tuple #[]) ∧ w = w' := by
  have c3 := h.c3
  go_enter Try.func52, Try.ntmps52
  go_wp2
  go_end0
  exact ⟨rfl, rfl⟩
end Go.Proofs.Ytjagimlmclejeaa

namespace Go.Proofs.Ytjagimlmclejeaa
open Go.RowKit Go.Proofs.Leb Go.Proofs.Own Go.Proofs.Cur
set_option maxRecDepth 100000
set_option maxHeartbeats 2000000

theorem Got.mk_ok {α : Type} {C : Nat} {v : Value} {bs : List UInt8} {lim : Int} {V : α → Value} {o : Out α} {w : World} {e : Ending} {w' : World} {a : α} {q : Nat} (h : o = .ok a q)
    (hu : Upd (· = C) w w') (he : e = .returned (V a)) (hc : Cur w' C v bs q lim 0) : Got C v bs lim V o w e w' := by subst h; exact ⟨hu, he, hc⟩
theorem Got.mk_up {α : Type} {C : Nat} {v : Value} {bs : List UInt8} {lim : Int} {V : α → Value} {o : Out α} {w : World} {e : Ending} {w' : World} {q er : Nat} (h : o = .up q er)
    (hu : Upd (· = C) w w') (he : e = .panicked [{ v := gave C, recovered := false }]) (hc : Cur w' C v bs q lim er) : Got C v bs lim V o w e w' := by subst h; exact ⟨hu, he, hc⟩

theorem new_upd {C : Nat} {a b c : World} (h : New a b) (k : Upd (· = C) b c) (_ : C < a.heap.size) : Upd (· = C) a c := Upd.trans (New.upd h) k (fun _ _ h => h)

/-- the next byte, if 'may' allows it -/
theorem Byte_any {w : World} {C : Nat} {v : Value} {bs : List UInt8} {p : Nat} {lim : Int} (h : Cur w C v bs p lim 0) (hi : Inv bs.length lim p) (G : Nat) (cap : Array Value) (hG : Enters G)
    (F : UInt8 → Int → Prop)
    (hmay : ∀ (hp : p < bs.length) w1, Upd (· = C) w w1 → Cur w1 C v bs (p + 1) lim 0 → 0 ≤ rest lim (p + 1) → rest lim (p + 1) ≤ 1099511627776 →
      Calls Try.prog G (#[cb bs[p], .int .i64 (rest lim (p + 1))] ++ cap) w1 (Yes (F bs[p] (rest lim (p + 1))) w1)) :
    Calls Try.prog 58 #[.pointer (some ⟨C, 0, none⟩), .func (.func G) #[] cap] w (Got C v bs lim cb (byteO bs lim F p) w) := by
  have HG := hid hG
  have HM := hid hmay
  have HI := hid hi
  have H0 := hid h
  have ip := hi.place
  have il := hi.len
  have HR := hid (Rest_any h hi)
  obtain ⟨r, hr⟩ : ∃ r, rest lim p = r := ⟨_, rfl⟩
  rw [hr] at HR
  by_cases r0 : r = 0
  · have HO : Hid (byteO bs lim F p = .up p 2) := by show _ = _; unfold byteO; rw [if_pos (hr.trans r0)]
    subst r0
    clear hmay hG hi hr
    go_enter Try.func58, Try.ntmps58
    go_wp2_with fail
    refine (goOn_any H0.out).mono ?_
    rintro e w' ⟨rfl, rfl⟩
    have c1 := h.c1
    go_wp2_with fail
    refine HR.out.mono ?_
    rintro e w1 ⟨rfl, hn⟩
    have h1 := H0.out.new hn
    have HN := hid hn
    clear c1 hn
    go_wp2_with fail
    refine (giveUp_any h1 p 2).mono ?_
    rintro e w2 ⟨rfl, hc2, hu2⟩
    go_wp2_with fail
    exact ⟨rfl, Got.mk_up HO.out (new_upd HN.out hu2 H0.out.lt) rfl hc2⟩
  · have hb : (r == 0) = false := by simpa using r0
    by_cases hp : p < bs.length
    · have hr' : rest lim p ≠ 0 := by rw [hr]; exact r0
      have hi1 := hi.next hr' hp
      have HI1 := hid hi1
      have HO : Hid ((F bs[p] (rest lim (p + 1)) → byteO bs lim F p = .ok bs[p] (p + 1)) ∧ (¬ F bs[p] (rest lim (p + 1)) → byteO bs lim F p = .up p 2)) := by
        constructor
        · intro hF; unfold byteO; rw [if_neg hr', dif_pos hp, if_pos hF]
        · intro hF; unfold byteO; rw [if_neg hr', dif_pos hp, if_neg hF]
      have HB := hid hi1.rest
      obtain ⟨r1, hr1⟩ : ∃ r1, rest lim (p + 1) = r1 := ⟨_, rfl⟩
      have HM' := hid (HM.out hp)
      rw [hr1] at HO HB HM'
      have HR1 := hid hr1
      obtain ⟨a, cp, rfl, hcap, hnil, hcell⟩ := h.rd
      obtain ⟨bb, oo, rfl, hce⟩ := hcell (by intro e; rw [e] at hp; simp at hp)
      have hcp := hce p hp
      generalize hx : bs[p] = x at *
      have HX := hid hx
      have HCP := hid hcp
      have hne : ((p : Int) == (bs.length : Int)) = false := by rw [beq_eq_false_iff_ne]; omega
      have hx256 := u8_lt x
      clear hmay hG hi hi1 hr hr1 hr' hcell hce hcp hx r0 HM
      go_enter Try.func58, Try.ntmps58
      go_wp2_with fail
      refine (goOn_any H0.out).mono ?_
      rintro e w' ⟨rfl, rfl⟩
      have c1 := h.c1
      go_wp2_with fail
      refine HR.out.mono ?_
      rintro e w1 ⟨rfl, hn⟩
      have h1 := H0.out.new hn
      have c0 := h1.c0
      have c1 := h1.c1
      have f1 := h1.f 1
      have ce := hn.cell HCP.out (fun h => h)
      unfold cb at ce
      have HN := hid hn
      have H1 := hid h1
      clear hn h1 h
      go_wp2_with fail
      obtain ⟨h2, u2⟩ := H1.out.at1 (p + 1)
      have u02 := hid (new_upd HN.out u2 H0.out.lt)
      have H2 := hid h2
      rw [show (((p + 1 : Nat)) : Int) = (p : Int) + 1 by omega] at h2 u2 u02 H2
      generalize hw2 : w1.setCell ⟨C, 1, none⟩ (.int .i64 ((p : Int) + 1)) = w2 at *
      have HRR := hid (Rest_any H2.out HI1.out)
      rw [HR1.out] at HRR
      clear c0 c1 f1 ce h2 u2 hw2
      refine HRR.out.mono ?_
      rintro e w3 ⟨rfl, hn3⟩
      have H3 := hid (H2.out.new hn3)
      have u03 := hid (u02.out.trans (New.upd hn3) (T := (· = C)) (fun _ _ h => h))
      have hM3 := HM'.out w3 u03.out H3.out HB.out.1 HB.out.2
      have HM3 := hid hM3
      clear hM3 hn3
      go_wp2_with fail
      refine upon_callv HG.out HM3.out ?_
      rintro e w4 ⟨b, rfl, hbF, hn4⟩
      have H4 := hid (H3.out.new hn4)
      have u04 := hid (u03.out.trans (New.upd hn4) (T := (· = C)) (fun _ _ h => h))
      have HBF := hid hbF
      clear hbF hn4
      cases b with
      | true =>
        go_wp2_with fail
        go_ret
        exact Got.mk_ok (HO.out.1 (HBF.out.1 (by first | rfl | trivial))) u04.out rfl H4.out
      | false =>
        go_wp2_with fail
        refine (giveUp_any H4.out p 2).mono ?_
        rintro e w5 ⟨rfl, hc5, hu5⟩
        go_wp2_with fail
        exact ⟨rfl, Got.mk_up (HO.out.2 (fun hF => by simpa using HBF.out.2 hF)) (u04.out.trans hu5 (fun _ _ h => h)) rfl hc5⟩
    · have hpl : p = bs.length := by omega
      have HO : Hid (byteO bs lim F p = .up p 1) := by show _ = _; unfold byteO; rw [if_neg (by rw [hr]; exact r0), dif_neg hp]
      have heq : ((p : Int) == (bs.length : Int)) = true := by rw [beq_iff_eq]; omega
      obtain ⟨a, cp, rfl, hcap, hnil, hcell⟩ := h.rd
      clear hmay hG hi hr hcell r0 HM hp
      have HPL := hid hpl
      clear hpl
      go_enter Try.func58, Try.ntmps58
      go_wp2_with fail
      refine (goOn_any H0.out).mono ?_
      rintro e w' ⟨rfl, rfl⟩
      have c1 := h.c1
      go_wp2_with fail
      refine HR.out.mono ?_
      rintro e w1 ⟨rfl, hn⟩
      have h1 := H0.out.new hn
      have c0 := h1.c0
      have c1 := h1.c1
      have HN := hid hn
      have H1 := hid h1
      clear hn h1 h
      go_wp2_with fail
      refine (giveUp_any H1.out p 1).mono ?_
      rintro e w2 ⟨rfl, hc2, hu2⟩
      go_wp2_with fail
      exact ⟨rfl, Got.mk_up HO.out (new_upd HN.out hu2 H0.out.lt) rfl hc2⟩
end Go.Proofs.Ytjagimlmclejeaa
