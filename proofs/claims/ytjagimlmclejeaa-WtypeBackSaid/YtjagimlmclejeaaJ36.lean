/-
  Types that came in, opened.
-/
import Derived.Test.YtjagimlmclejeaaJ35
import Derived.Test.YtjagimlmclejeaaJ22
namespace Go.Proofs.Ytjagimlmclejeaa
open Go.RowKit Go.Proofs.Leb Go.Proofs.Own Go.ChangeShapes Go.WideShapes Go.Deep
set_option maxRecDepth 100000

/-- one of each type, without its memory -/
structure TyM where
  v : UInt8
  p : ByteArray
  r : ByteArray
  lh : Bool
  ln : Nat
  lx : Nat
  e : UInt8
  th : Bool
  tn : Nat
  tx : Nat
  gt : UInt8
  gm : Bool
def tyC (x : TyM) : Array Value := #[.int .u8 x.v.toNat, .string x.p, .string x.r, .bool x.lh, .int .u32 (x.ln : Nat), .int .u32 (x.lx : Nat), .int .u8 x.e.toNat, .bool x.th, .int .u32 (x.tn : Nat), .int .u32 (x.tx : Nat), .int .u8 x.gt.toNat, .bool x.gm]
def fnC (x : Fty) : Array Value := #[.string x.p, .string x.r]
structure TyWf (x : TyM) : Prop where
  p : x.p.size ≤ 140737488355328
  r : x.r.size ≤ 140737488355328
  ln : x.ln < 4294967296
  lx : x.lx < 4294967296
  tn : x.tn < 4294967296
  tx : x.tx < 4294967296
theorem u8_has {n : Int} (h0 : 0 ≤ n) (h1 : n < 256) : ∃ x : UInt8, n = (x.toNat : Nat) := ⟨UInt8.ofNat n.toNat, by rw [u8_of _ (by omega)]; omega⟩
theorem u32_has {n : Int} (h0 : 0 ≤ n) (h1 : n < 4294967296) : ∃ x : Nat, n = (x : Nat) ∧ x < 4294967296 := ⟨n.toNat, by omega, by omega⟩
section
variable {H : Type} {enc : TypeId × Value → H} {w : World} {base : Nat} {held : Bool}
theorem byte_of {fuel : Nat} {u : Value} {y : DataW H × List MemPlace} (h : DataW.trod enc Try.prog w base (fun _ => true) held fuel 5 [u] = some y) : ∃ x : UInt8, u = .int .u8 x.toNat := by
  obtain ⟨a, e, _, wa⟩ := DataW.trod_int Try.underlying5 h
  obtain rfl : u = _ := by simpa using e
  obtain ⟨x, rfl⟩ := u8_has (wf_u8 wa).1 (wf_u8 wa).2
  exact ⟨x, rfl⟩
theorem num32_of {fuel : Nat} {u : Value} {y : DataW H × List MemPlace} (h : DataW.trod enc Try.prog w base (fun _ => true) held fuel 24 [u] = some y) : ∃ x : Nat, u = .int .u32 (x : Nat) ∧ x < 4294967296 := by
  obtain ⟨a, e, _, wa⟩ := DataW.trod_int Try.underlying24 h
  obtain rfl : u = _ := by simpa using e
  obtain ⟨x, rfl, hx⟩ := u32_has (wf_u32 wa).1 (wf_u32 wa).2
  exact ⟨x, rfl, hx⟩
theorem bit_of {fuel : Nat} {u : Value} {y : DataW H × List MemPlace} (h : DataW.trod enc Try.prog w base (fun _ => true) held fuel 4 [u] = some y) : ∃ x : Bool, u = .bool x := by
  obtain ⟨a, e, _⟩ := DataW.trod_bool Try.underlying4 h
  obtain rfl : u = _ := by simpa using e
  exact ⟨a, rfl⟩
theorem text_of {fuel : Nat} {u : Value} {y : DataW H × List MemPlace} (h : DataW.trod enc Try.prog w base (fun _ => true) held fuel 9 [u] = some y) (hL : Light Try.prog 9 y.1) : ∃ s : ByteArray, u = .string s ∧ s.size ≤ 140737488355328 := by
  obtain ⟨s, e, rfl, _⟩ := DataW.trod_string Try.underlying9 h
  have h1 := Light.str hL
  have h2 := reach_le
  exact ⟨s, by simpa using e, by simp at h1; omega⟩
theorem func_of (fuel : Nat) (cs : List Value) (x : DataW H × List MemPlace) (h : DataW.trod enc Try.prog w base (fun _ => true) held fuel 23 cs = some x) (hL : Light Try.prog 23 x.1) :
    ∃ n : Fty, cs = (fnC n).toList ∧ n.p.size ≤ 140737488355328 ∧ n.r.size ≤ 140737488355328 := by
  have hl := struct_len Try.underlying23 h
  rw [show Try.prog.cellsOf 23 = 2 by kernel_rfl] at hl
  obtain ⟨c0, c1, rfl⟩ : ∃ c0 c1, cs = [c0, c1] := by
    match cs, hl with
    | [c0, c1], _ => exact ⟨c0, c1, rfl⟩
  obtain ⟨_, _, g0, l0⟩ := part1 Try.underlying23 h hL 0 rfl (by kernel_rfl) (u := c0) rfl
  obtain ⟨_, _, g1, l1⟩ := part1 Try.underlying23 h hL 1 rfl (by kernel_rfl) (u := c1) rfl
  obtain ⟨p, rfl, z0⟩ := text_of g0 l0
  obtain ⟨r, rfl, z1⟩ := text_of g1 l1
  exact ⟨⟨p, r⟩, rfl, z0, z1⟩
theorem types_of (fuel : Nat) (cs : List Value) (x : DataW H × List MemPlace) (h : DataW.trod enc Try.prog w base (fun _ => true) held fuel 32 cs = some x) (hL : Light Try.prog 32 x.1) :
    ∃ n : TyM, cs = (tyC n).toList ∧ TyWf n := by
  have hl := struct_len Try.underlying32 h
  rw [show Try.prog.cellsOf 32 = 12 by kernel_rfl] at hl
  obtain ⟨c0, c1, c2, c3, c4, c5, c6, c7, c8, c9, c10, c11, rfl⟩ : ∃ c0 c1 c2 c3 c4 c5 c6 c7 c8 c9 c10 c11, cs = [c0, c1, c2, c3, c4, c5, c6, c7, c8, c9, c10, c11] := by
    match cs, hl with
    | [c0, c1, c2, c3, c4, c5, c6, c7, c8, c9, c10, c11], _ => exact ⟨c0, c1, c2, c3, c4, c5, c6, c7, c8, c9, c10, c11, rfl⟩
  clear hl
  obtain ⟨_, _, g0, _⟩ := part1 Try.underlying32 h hL 0 rfl (by kernel_rfl) (u := c0) rfl
  obtain ⟨_, _, gF, lF⟩ := partN Try.underlying32 h hL 1 rfl (k := 2) (by kernel_rfl) (ds := [c1, c2]) rfl
  obtain ⟨_, _, gL, lL⟩ := partN Try.underlying32 h hL 2 rfl (k := 3) (by kernel_rfl) (ds := [c3, c4, c5]) rfl
  obtain ⟨_, _, gT, lT⟩ := partN Try.underlying32 h hL 3 rfl (k := 4) (by kernel_rfl) (ds := [c6, c7, c8, c9]) rfl
  obtain ⟨_, _, gG, lG⟩ := partN Try.underlying32 h hL 4 rfl (k := 2) (by kernel_rfl) (ds := [c10, c11]) rfl
  clear h hL
  obtain ⟨v, rfl⟩ := byte_of g0
  obtain ⟨f, ef, z1, z2⟩ := func_of _ _ _ gF lF
  unfold fnC at ef
  simp only [List.cons.injEq, and_true] at ef
  obtain ⟨rfl, rfl⟩ := ef
  obtain ⟨_, _, g3, _⟩ := part1 Try.underlying26 gL lL 0 rfl (by kernel_rfl) (u := c3) rfl
  obtain ⟨_, _, g4, _⟩ := part1 Try.underlying26 gL lL 1 rfl (by kernel_rfl) (u := c4) rfl
  obtain ⟨_, _, g5, _⟩ := part1 Try.underlying26 gL lL 2 rfl (by kernel_rfl) (u := c5) rfl
  obtain ⟨lh, rfl⟩ := bit_of g3
  obtain ⟨ln, rfl, b4⟩ := num32_of g4
  obtain ⟨lx, rfl, b5⟩ := num32_of g5
  obtain ⟨_, _, g6, _⟩ := part1 Try.underlying28 gT lT 0 rfl (by kernel_rfl) (u := c6) rfl
  obtain ⟨_, _, gM, lM⟩ := partN Try.underlying28 gT lT 1 rfl (k := 3) (by kernel_rfl) (ds := [c7, c8, c9]) rfl
  obtain ⟨e, rfl⟩ := byte_of g6
  obtain ⟨_, _, g7, _⟩ := part1 Try.underlying26 gM lM 0 rfl (by kernel_rfl) (u := c7) rfl
  obtain ⟨_, _, g8, _⟩ := part1 Try.underlying26 gM lM 1 rfl (by kernel_rfl) (u := c8) rfl
  obtain ⟨_, _, g9, _⟩ := part1 Try.underlying26 gM lM 2 rfl (by kernel_rfl) (u := c9) rfl
  obtain ⟨th, rfl⟩ := bit_of g7
  obtain ⟨tn, rfl, b8⟩ := num32_of g8
  obtain ⟨tx, rfl, b9⟩ := num32_of g9
  obtain ⟨_, _, g10, _⟩ := part1 Try.underlying30 gG lG 0 rfl (by kernel_rfl) (u := c10) rfl
  obtain ⟨_, _, g11, _⟩ := part1 Try.underlying30 gG lG 1 rfl (by kernel_rfl) (u := c11) rfl
  obtain ⟨gt, rfl⟩ := byte_of g10
  obtain ⟨gm, rfl⟩ := bit_of g11
  exact ⟨⟨v, f.p, f.r, lh, ln, lx, e, th, tn, tx, gt, gm⟩, rfl, ⟨z1, z2, b4, b5, b8, b9⟩⟩
end
end Go.Proofs.Ytjagimlmclejeaa
