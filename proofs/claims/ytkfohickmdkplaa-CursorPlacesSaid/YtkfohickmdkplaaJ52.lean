/-
  CursorPlaces: what is tried.
-/
import Derived.Test.YtkfohickmdkplaaJ45
import Derived.Test.YtkfohickmdkplaaJ51
namespace Go.Proofs.Ytkfohickmdkplaa
open Go.RowKit Go.Proofs.Leb Go.Proofs.Own Go.Proofs.Cur Go.Proofs.Span
set_option maxRecDepth 100000
set_option maxHeartbeats 4000000
theorem Rd.front {w : World} {a : Option Addr} {n c : Nat} {bs : List UInt8} (h : Rd w (.slice a n c) bs) (i : Nat) (hi : i ≤ n) : Rd w (.slice a i c) (bs.take i) := by
  obtain ⟨a', c', e, h1, h2, h3⟩ := h
  cases e
  refine ⟨a, c, by rw [List.length_take, Nat.min_eq_left hi], by rw [List.length_take]; omega, h2, fun hne => ?_⟩
  have hb : bs ≠ [] := by intro e; subst e; simp at hne
  obtain ⟨b, o, rfl, hc⟩ := h3 hb
  refine ⟨b, o, rfl, fun j hj => ?_⟩
  rw [List.length_take] at hj
  rw [List.getElem_take]
  exact hc j (by omega)
theorem places11_any (H : AskedAny) (C Bl : Nat) (lv vb : Value) (bs : List UInt8) (l : List AskM) (Bk : Nat → Prop) (w1 : World) (hl : One1 w1 Bl lv) (hr : RdA w1 Bk lv l) (hk : ∀ k, Bk k → k < w1.heap.size ∧ k ≠ C) (hwf : ∀ a ∈ l, WfA a) (hfine : ∀ a ∈ l, FineA a) (hl30 : l.length ≤ 30)
    (hc : Cur w1 C vb bs 0 (-1) 0) (hbl : bs.length ≤ 1000000000) :
    Calls Try.prog 13 #[.pointer (some ⟨C, 0, none⟩), .pointer (some ⟨Bl, 0, none⟩)] w1
      (fun e w2 => Upd (fun k => k = C ∨ False) w1 w2 ∧ Did C vb bs (-1) (allO bs l (-1) 0).2 w2 e ∧ True) := by
  have hC := hc.lt
  obtain ⟨⟨al, cl, rfl, _⟩, _⟩ := id hr
  obtain ⟨w2, hw2⟩ : ∃ w2, w1.alloc (.cells #[.slice none 0 0] 25) = w2 := ⟨_, rfl⟩
  have hn : New w1 w2 := by rw [← hw2]; exact (Upd.refl _ _).alloc _
  have hs : w2.heap.size = w1.heap.size + 1 := by rw [← hw2]; simp
  have hb : One1 w2 w1.heap.size (.slice none 0 0) := by rw [← hw2]; exact One1.mk rfl
  have HA := hid (H (l.length + 1) l _ Bk w2 C w1.heap.size vb bs (-1) 0 (.slice none 0 0) [] (Nat.lt_succ_self _) hl30 (hr.new hn)
    (fun k h => ⟨by have := (hk k h).1; omega, by
      rintro (h1 | h1 | h1)
      · exact (hk k h).2 h1
      · have := (hk k h).1; omega
      · cases h1⟩) hwf hfine (by simp; omega) ⟨(by
      rintro (h1 | h1)
      · omega
      · cases h1), fun hne k h => by
      have := hc.rd.there hne k h
      rintro (h1 | h1)
      · omega
      · cases h1⟩ (hc.new hn) ⟨Nat.zero_le _, hbl, .inl rfl⟩ ⟨hb, Texts.nil _, fun h => by cases h⟩)
  have z0 := hl.c
  have HN := hid hn
  have z1 : (w1.alloc (.cells #[.slice none 0 0] 25)).cell? ⟨Bl, 0, none⟩ = some (.slice al l.length cl) := by rw [hw2]; exact (hl.new hn).c
  have HW2 := hid hw2
  obtain ⟨o, ho⟩ : ∃ o, (allO bs l (-1) 0).2 = o := ⟨_, rfl⟩
  rw [ho]
  have HO := hid ho
  clear hl hr hk hwf hfine hc hn hb hw2 ho
  go_enter Try.func13, Try.ntmps13
  go_wp2_with fail
  rw [HW2.out]
  refine HA.out.mono ?_
  rintro e w3 ⟨hu, hd, -⟩
  rw [HO.out] at hd
  have HD := hid hd
  have HU : Hid (Upd (fun k => k = C ∨ False) w1 w3) := (New.upd HN.out).trans hu (fun k hk h => by
    rcases h with h | h | h
    · exact .inl h
    · omega
    · cases h)
  clear hu
  cases o with
  | ok z q =>
    obtain ⟨rfl, -⟩ := hd
    go_wp2_with fail
    go_end0
    exact ⟨HU.out, HD.out, trivial⟩
  | up q er =>
    obtain ⟨rfl, -⟩ := hd
    go_wp2_with fail
    exact ⟨rfl, HU.out, HD.out, trivial⟩
theorem places1_any (H : AskedAny) (Bl : Nat) (lv bv : Value) (bs : List UInt8) (l : List AskM) (Bk : Nat → Prop) (w : World) (hb : Rd w bv bs) (hl : One1 w Bl lv) (hr : RdA w Bk lv l) (hk : ∀ k, Bk k → k < w.heap.size) (hwf : ∀ a ∈ l, WfA a) (hfine : ∀ a ∈ l, FineA a) (hl30 : l.length ≤ 30) (hbl : bs.length ≤ 1000000000) :
    Calls Try.prog 12 #[bv, .pointer (some ⟨Bl, 0, none⟩)] w
      (fun e w' => e = .returned (.tuple #[.int .i64 (placeO (allO bs l (-1) 0).2), .int .i64 (errO (allO bs l (-1) 0).2)]) ∧ New w w') := by
  have HT := hid (Try_any bv bs w hb hbl 13 #[.pointer (some ⟨Bl, 0, none⟩)] (fun _ _ => rfl) (fun _ => False) (fun k h => h.elim) (fun _ k _ h => h) (allO bs l (-1) 0).2 (fun _ => True) (fun _ _ _ _ => trivial)
    (fun w1 hn hs hc => places11_any H _ Bl lv bv bs l Bk w1 (hl.new hn) (hr.new hn) (fun k h => ⟨by have := hk k h; omega, by have := hk k h; omega⟩) hwf hfine hl30 hc hbl))
  have hmf : ∀ (fn : Fn) (first cap : Array Value) (w : World), (Instr.makeFunc fn first cap).run Try.prog w = .ok (.func fn first cap) w := fun _ _ _ _ => rfl
  obtain ⟨av, cv, rfl⟩ := hb.shape
  clear hb hl hr hk hwf hfine
  go_enter Try.func12, Try.ntmps12
  go_wp2_with fail
  refine HT.out.mono ?_
  rintro e w1 ⟨rfl, hu, -⟩
  have HU := hid hu
  clear hu
  go_wp2_with fail
  go_ret2
  exact ⟨rfl, HU.out⟩
end Go.Proofs.Ytkfohickmdkplaa
