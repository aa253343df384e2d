/-
  Asks that came in, opened.
-/
import Derived.Test.YtkfohickmdkplaaJ5
import Derived.Test.YtkfohickmdkplaaJ34
namespace Go.Proofs.Ytkfohickmdkplaa
open Go.RowKit Go.Proofs.Leb Go.Proofs.Own Go.Proofs.Cur Go.ChangeShapes Go.WideShapes Go.Deep
set_option maxRecDepth 100000

instance : Inhabited AskM := ⟨⟨0, 0, 0, 0, ⟨0, 0, 0, 0, 0, 0, 0, 0, 0, []⟩⟩⟩
def rowK (y : Nat × Int × Int) : List Value := [.int .u64 y.1, .int .i64 y.2.1, .int .i64 y.2.2]
/-- an ask, by value -/
def rowA (a : AskM) (pv : Value) : Array Value := #[.int .u8 a.doo, .int .i64 a.n, .int .u8 a.lo, .int .u8 a.hi] ++ valW a.x pv
theorem rdk_of {w : World} {B : Nat → Prop} {v : Value} {ps : List (Nat × Int × Int)} (h : RdE 3 (Pure rowK) w B v ps) : RdK w v ps := by
  obtain ⟨a, cap, rfl, h1, h2, h3, h4⟩ := h
  refine ⟨a, cap, rfl, h1, h2, fun hne => ?_⟩
  obtain ⟨b, o, rfl, hc⟩ := h4 hne
  refine ⟨b, o, rfl, fun i hi => ?_⟩
  obtain ⟨row, hl, he, hr⟩ := hc i hi
  unfold Own.Pure at he
  subst he
  exact ⟨hr 0 _ rfl, hr 1 _ rfl, hr 2 _ rfl⟩
def EAsk : ERep AskM := fun w B a row => ∃ pv, row = (rowA a pv).toList ∧ RdK w pv a.x.picks ∧ (a.x.picks ≠ [] → ∀ k, pv.ownBlock = some k → B k)
theorem EAsk.ok : EAsk.Ok := ⟨fun ⟨pv, e, h, h2⟩ hu hS => ⟨pv, e, h.upd hu (fun hne k hk => hS k (h2 hne k hk)), h2⟩, fun ⟨pv, e, h, h2⟩ hB => ⟨pv, e, h, fun hne k hk => hB k (h2 hne k hk)⟩⟩
theorem EAsk.there {w : World} {a : AskM} {row : List Value} (h : EAsk w (fun _ => True) a row) : EAsk w (fun k => k < w.heap.size) a row := by
  obtain ⟨pv, e, h, -⟩ := h
  refine ⟨pv, e, h, fun hne k hk => ?_⟩
  obtain ⟨a', cap, rfl, h1, h2, h3⟩ := h
  obtain ⟨b, o, rfl, hc⟩ := h3 hne
  cases hk
  exact World.block_lt_of_cell? w _ (hc 0 (List.length_pos_iff.2 hne)).1
/-- a slice of asks that can be read, in blocks of B -/
def RdA (w : World) (B : Nat → Prop) (v : Value) (l : List AskM) : Prop :=
  (∃ a cap, v = .slice a l.length cap ∧ l.length ≤ cap) ∧ (l ≠ [] → RdE 14 EAsk w B v l)
theorem RdA.of {w : World} {v : Value} {l : List AskM} (h : RdE 14 EAsk w (fun _ => True) v l) : RdA w (fun k => k < w.heap.size) v l := by
  obtain ⟨a, cap, rfl, h1, h2, h3, h4⟩ := h
  refine ⟨⟨a, cap, rfl, h1⟩, fun hne => ⟨a, cap, rfl, h1, h2, ?_, fun _ => ?_⟩⟩
  · obtain ⟨b, o, rfl, hc⟩ := h4 hne
    rintro k hk
    cases hk
    obtain ⟨row, r1, r2, r3⟩ := hc 0 (List.length_pos_iff.2 hne)
    obtain ⟨u, hu⟩ : ∃ u, row[0]? = some u := ⟨_, List.getElem?_eq_getElem (by omega)⟩
    exact World.block_lt_of_cell? w _ (r3 0 u hu)
  · obtain ⟨b, o, e, hc⟩ := h4 hne
    refine ⟨b, o, e, fun i hi => ?_⟩
    obtain ⟨row, r1, r2, r3⟩ := hc i hi
    exact ⟨row, r1, r2.there, r3⟩
theorem RdA.upd {S : Nat → Prop} {w w' : World} {B : Nat → Prop} {v : Value} {l : List AskM} (h : RdA w B v l) (hu : Upd S w w') (hS : ∀ k, B k → ¬ S k) : RdA w' B v l := ⟨h.1, fun hne => (h.2 hne).upd EAsk.ok hu hS⟩
theorem RdA.new {w w' : World} {B : Nat → Prop} {v : Value} {l : List AskM} (h : RdA w B v l) (hn : New w w') : RdA w' B v l := h.upd hn (fun _ _ h => h)
def I64 (z : Int) : Prop := -9223372036854775808 ≤ z ∧ z ≤ 9223372036854775807
def WfK (y : Nat × Int × Int) : Prop := y.1 < 18446744073709551616 ∧ I64 y.2.1 ∧ I64 y.2.2
structure WfA (a : AskM) : Prop where
  doo : a.doo < 256
  n : I64 a.n
  lo : a.lo < 256
  hi : a.hi < 256
  kind : I64 a.x.kind
  xlo : a.x.lo < 18446744073709551616
  xhi : a.x.hi < 18446744073709551616
  i1 : I64 a.x.i1
  i2 : I64 a.x.i2
  o1 : I64 a.x.o1
  o2 : I64 a.x.o2
  b1 : I64 a.x.b1
  b2 : I64 a.x.b2
  picks : ∀ y ∈ a.x.picks, WfK y
  few : a.x.picks.length ≤ 140737488355328
section
variable {H : Type} {enc : TypeId × Value → H} {w : World} {base : Nat} {held : Bool}
theorem span_of {fuel : Nat} {c0 c1 : Value} {x : DataW H × List MemPlace} (h : DataW.trod enc Try.prog w base (fun _ => true) held fuel 44 [c0, c1] = some x) (hL : Light Try.prog 44 x.1) :
    ∃ a b : Int, c0 = .int .i64 a ∧ c1 = .int .i64 b ∧ I64 a ∧ I64 b := by
  obtain ⟨n0, y0, g0, l0⟩ := part1 Try.underlying44 h hL 0 rfl (by kernel_rfl) (u := c0) rfl
  obtain ⟨a0, e0, _, w0⟩ := DataW.trod_int Try.underlying3 g0
  obtain ⟨n1, y1, g1, l1⟩ := part1 Try.underlying44 h hL 1 rfl (by kernel_rfl) (u := c1) rfl
  obtain ⟨a1, e1, _, w1⟩ := DataW.trod_int Try.underlying3 g1
  exact ⟨a0, a1, by simpa using e0, by simpa using e1, ⟨(wf_i64 w0).1, by have := (wf_i64 w0).2; omega⟩, ⟨(wf_i64 w1).1, by have := (wf_i64 w1).2; omega⟩⟩
theorem nat8 {z : Int} (h : 0 ≤ z ∧ z < 256) : ∃ n : Nat, z = n ∧ n < 256 := ⟨z.toNat, by omega, by omega⟩
theorem nat64 {z : Int} (h : 0 ≤ z ∧ z < 18446744073709551616) : ∃ n : Nat, z = n ∧ n < 18446744073709551616 := ⟨z.toNat, by omega, by omega⟩
theorem pick_of (fuel : Nat) (cs : List Value) (x : DataW H × List MemPlace) (h : DataW.trod enc Try.prog w base (fun _ => true) held fuel 52 cs = some x) (hl : cs.length = 3) (hL : Light Try.prog 52 x.1) :
    ∃ y, Pure rowK w (fun _ => True) y cs ∧ WfK y := by
  obtain ⟨c0, c1, c2, rfl⟩ : ∃ c0 c1 c2, cs = [c0, c1, c2] := by
    match cs, hl with
    | [c0, c1, c2], _ => exact ⟨c0, c1, c2, rfl⟩
  obtain ⟨n0, y0, g0, l0⟩ := part1 Try.underlying52 h hL 0 rfl (by kernel_rfl) (u := c0) rfl
  obtain ⟨a0, e0, _, w0⟩ := DataW.trod_int Try.underlying42 g0
  obtain rfl : c0 = _ := by simpa using e0
  obtain ⟨n1, y1, g1, l1⟩ := partN Try.underlying52 h hL 1 rfl (k := 2) (by kernel_rfl) (ds := [c1, c2]) rfl
  obtain ⟨a, b, rfl, rfl, ha, hb⟩ := span_of g1 l1
  obtain ⟨m, rfl, hm⟩ := nat64 ⟨(wf_u64 w0).1, (wf_u64 w0).2⟩
  exact ⟨(m, a, b), rfl, hm, ha, hb⟩
theorem picks_of (fuel : Nat) (cs : List Value) (y : DataW H × List MemPlace) (h : DataW.trod enc Try.prog w base (fun _ => true) held fuel 45 cs = some y) (hL : Light Try.prog 45 y.1) :
    ∃ v, cs = [v] ∧ ∃ xs, RdE 3 (Pure rowK) w (fun _ => True) v xs ∧ xs.length ≤ 140737488355328 ∧ ∀ x ∈ xs, WfK x := by
  obtain ⟨v, e, xs, h1, h2, h3⟩ := rdnOf (Pure rowK) WfK Try.underlying45 (e := 52) (n := 3) (by kernel_rfl) (by decide) (of_decide_eq_true (by kernel_rfl)) h hL (fun fuel cs x h hl hL => pick_of fuel cs x h hl hL)
  exact ⟨v, e, xs, h1, Nat.le_trans h2 reach_le, h3⟩
theorem want_of (fuel : Nat) (cs : List Value) (x : DataW H × List MemPlace) (h : DataW.trod enc Try.prog w base (fun _ => true) held fuel 47 cs = some x) (hl : cs.length = 10) (hL : Light Try.prog 47 x.1) :
    ∃ (m : Wnt) (pv : Value), cs = (valW m pv).toList ∧ RdE 3 (Pure rowK) w (fun _ => True) pv m.picks ∧ I64 m.kind ∧ m.lo < 18446744073709551616 ∧ m.hi < 18446744073709551616 ∧ I64 m.i1 ∧ I64 m.i2 ∧ I64 m.o1 ∧ I64 m.o2 ∧ I64 m.b1 ∧ I64 m.b2 ∧ (∀ y ∈ m.picks, WfK y) ∧ m.picks.length ≤ 140737488355328 := by
  obtain ⟨c0, c1, c2, c3, c4, c5, c6, c7, c8, c9, rfl⟩ : ∃ c0 c1 c2 c3 c4 c5 c6 c7 c8 c9, cs = [c0, c1, c2, c3, c4, c5, c6, c7, c8, c9] := by
    match cs, hl with
    | [c0, c1, c2, c3, c4, c5, c6, c7, c8, c9], _ => exact ⟨c0, c1, c2, c3, c4, c5, c6, c7, c8, c9, rfl⟩
  obtain ⟨n0, y0, g0, l0⟩ := part1 Try.underlying47 h hL 0 rfl (by kernel_rfl) (u := c0) rfl
  obtain ⟨a0, e0, _, w0⟩ := DataW.trod_int Try.underlying3 g0
  obtain rfl : c0 = _ := by simpa using e0
  obtain ⟨n1, y1, g1, l1⟩ := part1 Try.underlying47 h hL 1 rfl (by kernel_rfl) (u := c1) rfl
  obtain ⟨a1, e1, _, w1⟩ := DataW.trod_int Try.underlying42 g1
  obtain rfl : c1 = _ := by simpa using e1
  obtain ⟨n2, y2, g2, l2⟩ := part1 Try.underlying47 h hL 2 rfl (by kernel_rfl) (u := c2) rfl
  obtain ⟨a2, e2, _, w2⟩ := DataW.trod_int Try.underlying42 g2
  obtain rfl : c2 = _ := by simpa using e2
  obtain ⟨n3, y3, g3, l3⟩ := partN Try.underlying47 h hL 3 rfl (k := 2) (by kernel_rfl) (ds := [c3, c4]) rfl
  obtain ⟨i1, i2, rfl, rfl, hi1, hi2⟩ := span_of g3 l3
  obtain ⟨n4, y4, g4, l4⟩ := partN Try.underlying47 h hL 4 rfl (k := 2) (by kernel_rfl) (ds := [c5, c6]) rfl
  obtain ⟨o1, o2, rfl, rfl, ho1, ho2⟩ := span_of g4 l4
  obtain ⟨n5, y5, g5, l5⟩ := partN Try.underlying47 h hL 5 rfl (k := 2) (by kernel_rfl) (ds := [c7, c8]) rfl
  obtain ⟨b1, b2, rfl, rfl, hb1, hb2⟩ := span_of g5 l5
  obtain ⟨n6, y6, g6, l6⟩ := part1 Try.underlying47 h hL 6 rfl (by kernel_rfl) (u := c9) rfl
  obtain ⟨pv, e6, ps, hr, hpl, hpw⟩ := picks_of _ _ _ g6 l6
  obtain rfl : c9 = _ := by simpa using e6
  obtain ⟨m1, rfl, hm1⟩ := nat64 ⟨(wf_u64 w1).1, (wf_u64 w1).2⟩
  obtain ⟨m2, rfl, hm2⟩ := nat64 ⟨(wf_u64 w2).1, (wf_u64 w2).2⟩
  exact ⟨⟨a0, m1, m2, i1, i2, o1, o2, b1, b2, ps⟩, c9, rfl, hr, ⟨(wf_i64 w0).1, by have := (wf_i64 w0).2; omega⟩, hm1, hm2, hi1, hi2, ho1, ho2, hb1, hb2, hpw, hpl⟩
theorem ask_of (fuel : Nat) (cs : List Value) (x : DataW H × List MemPlace) (h : DataW.trod enc Try.prog w base (fun _ => true) held fuel 49 cs = some x) (hl : cs.length = 14) (hL : Light Try.prog 49 x.1) :
    ∃ a : AskM, EAsk w (fun _ => True) a cs ∧ WfA a := by
  obtain ⟨c0, c1, c2, c3, c4, c5, c6, c7, c8, c9, c10, c11, c12, c13, rfl⟩ : ∃ c0 c1 c2 c3 c4 c5 c6 c7 c8 c9 c10 c11 c12 c13, cs = [c0, c1, c2, c3, c4, c5, c6, c7, c8, c9, c10, c11, c12, c13] := by
    match cs, hl with
    | [c0, c1, c2, c3, c4, c5, c6, c7, c8, c9, c10, c11, c12, c13], _ => exact ⟨c0, c1, c2, c3, c4, c5, c6, c7, c8, c9, c10, c11, c12, c13, rfl⟩
  obtain ⟨n0, y0, g0, l0⟩ := part1 Try.underlying49 h hL 0 rfl (by kernel_rfl) (u := c0) rfl
  obtain ⟨a0, e0, _, w0⟩ := DataW.trod_int Try.underlying5 g0
  obtain rfl : c0 = _ := by simpa using e0
  obtain ⟨n1, y1, g1, l1⟩ := part1 Try.underlying49 h hL 1 rfl (by kernel_rfl) (u := c1) rfl
  obtain ⟨a1, e1, _, w1⟩ := DataW.trod_int Try.underlying3 g1
  obtain rfl : c1 = _ := by simpa using e1
  obtain ⟨n2, y2, g2, l2⟩ := part1 Try.underlying49 h hL 2 rfl (by kernel_rfl) (u := c2) rfl
  obtain ⟨a2, e2, _, w2⟩ := DataW.trod_int Try.underlying5 g2
  obtain rfl : c2 = _ := by simpa using e2
  obtain ⟨n3, y3, g3, l3⟩ := part1 Try.underlying49 h hL 3 rfl (by kernel_rfl) (u := c3) rfl
  obtain ⟨a3, e3, _, w3⟩ := DataW.trod_int Try.underlying5 g3
  obtain rfl : c3 = _ := by simpa using e3
  obtain ⟨n4, y4, g4, l4⟩ := partN Try.underlying49 h hL 4 rfl (k := 10) (by kernel_rfl) (ds := [c4, c5, c6, c7, c8, c9, c10, c11, c12, c13]) rfl
  obtain ⟨m, pv, e4, hr, h1, h2, h3, h4, h5, h6, h7, h8, h9, h10, h11⟩ := want_of _ _ _ g4 rfl l4
  obtain ⟨m0, rfl, hm0⟩ := nat8 ⟨(wf_u8 w0).1, (wf_u8 w0).2⟩
  obtain ⟨m2, rfl, hm2⟩ := nat8 ⟨(wf_u8 w2).1, (wf_u8 w2).2⟩
  obtain ⟨m3, rfl, hm3⟩ := nat8 ⟨(wf_u8 w3).1, (wf_u8 w3).2⟩
  refine ⟨⟨m0, a1, m2, m3, m⟩, ⟨pv, ?_, rdk_of hr, fun _ _ _ => trivial⟩, ⟨hm0, ⟨(wf_i64 w1).1, by have := (wf_i64 w1).2; omega⟩, hm2, hm3, h1, h2, h3, h4, h5, h6, h7, h8, h9, h10, h11⟩⟩
  rw [e4]
  rfl
theorem asks_of (fuel : Nat) (cs : List Value) (y : DataW H × List MemPlace) (h : DataW.trod enc Try.prog w base (fun _ => true) held fuel 23 cs = some y) (hL : Light Try.prog 23 y.1) :
    ∃ v, cs = [v] ∧ ∃ xs, RdE 14 EAsk w (fun _ => True) v xs ∧ xs.length ≤ 140737488355328 ∧ ∀ x ∈ xs, WfA x := by
  obtain ⟨v, e, xs, h1, h2, h3⟩ := rdnOf EAsk WfA Try.underlying23 (e := 49) (n := 14) (by kernel_rfl) (by decide) (of_decide_eq_true (by kernel_rfl)) h hL (fun fuel cs x h hl hL => ask_of fuel cs x h hl hL)
  exact ⟨v, e, xs, h1, Nat.le_trans h2 reach_le, h3⟩
end
end Go.Proofs.Ytkfohickmdkplaa
