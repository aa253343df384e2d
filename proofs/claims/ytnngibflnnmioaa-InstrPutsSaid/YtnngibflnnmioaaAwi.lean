/-
  What the chapter's examples of instructions say.
-/
import Derived.Test.YtnngibflnnmioaaPut
import Derived.Test.YtnngibflnnmioaaOwn
namespace Go.Proofs.Ytnngibflnnmioaa
open Go.RowKit Go.Proofs.Leb Go.Proofs.Own
set_option maxRecDepth 100000
set_option maxHeartbeats 8000000

def m41 : Ins := ⟨0, 65, 0, 0, 0, 0, 0, [], -1, ⟨#[]⟩, 0, ⟨#[]⟩⟩
def m0e : Ins := ⟨0, 14, 0, 0, 0, 3, 0, [1, 2], 0, ⟨#[]⟩, 0, ⟨#[]⟩⟩
theorem right41 : RightQ m41 := by
  refine ⟨by decide, ?_, rfl⟩
  rw [show shapeV m41.p m41.c = (9, 0) from by decide]
  unfold ownQ
  simp [m41]
theorem right0e : RightQ m0e := by
  refine ⟨by decide, ?_, rfl⟩
  rw [show shapeV m0e.p m0e.c = (4, 0) from by decide]
  unfold ownQ
  simp
theorem bytes41 : opBytes 0 65 ++ putB (shapeV (0 : Nat) (65 : Nat)).1 ⟨((0 : Nat) : Int), ((65 : Nat) : Int), 0, ((0 : Nat) : Int), ((0 : Nat) : Int), ((0 : Nat) : Int), ((0 : Nat) : Int), [], -1, ⟨#[]⟩, ((0 : Nat) : Int), ⟨#[]⟩⟩ = [65, 127] := by
  rw [show shapeV (0 : Nat) (65 : Nat) = (9, 0) from by decide]
  unfold opBytes putB
  simp [encS_last]
theorem bytes0e : opBytes 0 14 ++ putB (shapeV (0 : Nat) (14 : Nat)).1 ⟨((0 : Nat) : Int), ((14 : Nat) : Int), 0, ((0 : Nat) : Int), ((0 : Nat) : Int), ((3 : Nat) : Int), ((0 : Nat) : Int), [1, 2], 0, ⟨#[]⟩, ((0 : Nat) : Int), ⟨#[]⟩⟩ = [14, 2, 1, 2, 3] := by
  rw [show shapeV (0 : Nat) (14 : Nat) = (4, 0) from by decide]
  unfold opBytes putB
  simp [encU_last]
theorem Box.cs {w : World} {g : Nat} {m : Ins} {l u : Value} (h : Box w g m l u) : w.cell? ⟨g, 0, none⟩ = some (.int .u8 m.p) ∧ w.cell? ⟨g, 1, none⟩ = some (.int .u32 m.c) ∧ w.cell? ⟨g, 2, none⟩ = some (.int .i64 m.k) ∧ w.cell? ⟨g, 3, none⟩ = some (.int .u8 m.t) ∧
    w.cell? ⟨g, 4, none⟩ = some (.int .u32 m.i) ∧ w.cell? ⟨g, 5, none⟩ = some (.int .u32 m.x) ∧ w.cell? ⟨g, 6, none⟩ = some (.int .u32 m.y) ∧ w.cell? ⟨g, 7, none⟩ = some l ∧ w.cell? ⟨g, 8, none⟩ = some (.int .i64 m.n) ∧ w.cell? ⟨g, 9, none⟩ = some (.string m.raw) ∧
    w.cell? ⟨g, 10, none⟩ = some (.int .u8 m.lane) ∧ w.cell? ⟨g, 11, none⟩ = some u :=
  ⟨cellAt h 0 rfl, cellAt h 1 rfl, cellAt h 2 rfl, cellAt h 3 rfl, cellAt h 4 rfl, cellAt h 5 rfl, cellAt h 6 rfl, cellAt h 7 rfl, cellAt h 8 rfl, cellAt h 9 rfl, cellAt h 10 rfl, cellAt h 11 rfl⟩
theorem Post.nil {w : World} {bs : List UInt8} {e : Ending} {w' : World} (h : Post w (.slice none 0 0) bs e w') : ∃ v', e = .returned v' ∧ Rd w' v' bs ∧ New w w' := by
  obtain ⟨v', rfl, hb, ha⟩ := h
  exact ⟨v', rfl, hb.rd, (Adds.nil ha).1⟩
theorem awakeI_any (w : World) : Calls Try.prog 13 #[] w (True' w) := by
  have hs2 := Lit2.r (lit_made2 (Bytes.nil w) 1 2)
  obtain ⟨w2, hw2⟩ : ∃ w2, ((w.alloc (.cells #[.int .u32 1, .int .u32 2] 22)).alloc (.cells (cells m41 (.slice none 0 0) (.slice none 0 0)) 34)).alloc (.cells (cells m0e (.slice (some ⟨w.heap.size, 0, none⟩) 2 2) (.slice none 0 0)) 34) = w2 := ⟨_, rfl⟩
  have HN : Hid (New w w2) := by show New _ _; rw [← hw2]; exact (((Upd.refl _ _).alloc _).alloc _).alloc _
  have H1 : Hid (Box w2 (w.heap.size + 1) m41 (.slice none 0 0) (.slice none 0 0)) := by show Box _ _ _ _ _; rw [← hw2]; exact hp_old (by simp) (hp_new (by simp))
  have H2 : Hid (Box w2 (w.heap.size + 1 + 1) m0e (.slice (some ⟨w.heap.size, 0, none⟩) 2 2) (.slice none 0 0)) := by show Box _ _ _ _ _; rw [← hw2]; exact hp_new (by simp)
  have HS : Hid (RdM .u32 w2 (.slice (some ⟨w.heap.size, 0, none⟩) 2 2) [1, 2]) := by
    show RdM _ _ _ _
    rw [← hw2]
    exact (hs2.new ((Upd.refl _ _).alloc _)).new ((Upd.refl _ _).alloc _)
  unfold cells m41 m0e at hw2
  simp only at hw2
  have HW := hid hw2
  have HG : Hid (w.heap.size < w2.heap.size) := by show _ < _; rw [← hw2]; simp; omega
  clear hw2 hs2
  go_enter Try.func13, Try.ntmps13
  go_wp2_with fail
  rw [HW.out]
  clear HW
  refine (pRight_any m41 (.slice none 0 0) (.slice none 0 0) w2 (by decide) (by decide) (RdM.nil _ _) (Rd.nil _) (by decide) (by decide) (by decide) (by decide) (by decide) (by decide) (by decide)).mono ?_
  rintro e w3 ⟨b, rfl, hb, hn⟩
  obtain rfl : b = true := hb.2 right41
  obtain ⟨z0, z1, z2, z3, z4, z5, z6, z7, z8, z9, z10, z11⟩ := Box.cs (hp1 H2.out hn)
  simp only [m0e] at z0 z1 z2 z3 z4 z5 z6 z7 z8 z9 z10 z11
  have HN3 := hid hn
  clear hn hb
  go_wp2_with fail
  clear z0 z1 z2 z3 z4 z5 z6 z7 z8 z9 z10 z11
  refine (pRight_any m0e (.slice (some ⟨w.heap.size, 0, none⟩) 2 2) (.slice none 0 0) w3 (by decide) (by decide) (HS.out.new HN3.out) (Rd.nil _) (by decide) (by decide) (by decide) (by decide) (by decide) (by decide) (by decide)).mono ?_
  rintro e w4 ⟨b, rfl, hb, hn⟩
  obtain rfl : b = true := hb.2 right0e
  have HN4 := hid (New.trans HN3.out hn)
  clear hn hb HN3
  obtain ⟨z0, z1, z2, z3, z4, z5, z6, z7, z8, z9, z10, z11⟩ := Box.cs (hp1 H1.out HN4.out)
  simp only [m41] at z0 z1 z2 z3 z4 z5 z6 z7 z8 z9 z10 z11
  go_wp2_with fail
  clear z0 z1 z2 z3 z4 z5 z6 z7 z8 z9 z10 z11
  have hP := pPut_any 0 65 0 0 0 0 0 0 (-1) [] ⟨#[]⟩ ⟨#[]⟩ (.slice none 0 0) (.slice none 0 0) (.slice none 0 0) [] w4 (by decide) (by decide) (by decide) (by decide) (by decide) (by decide) (by decide) (by decide) (by decide) (by simp) (by decide) (by decide) (by decide) (by decide)
    (Bytes.nil _) (RdM.nil _ _) (Rd.nil _) (fun k h => by cases h) (fun k h => by cases h) (fun k h => by cases h) (fun k h => by cases h) (by decide)
  rw [List.nil_append, bytes41] at hP
  refine hP.mono ?_
  clear hP
  rintro e w5 h
  obtain ⟨v5, rfl, hr, hn⟩ := Post.nil h
  have HN5 := hid (New.trans HN4.out hn)
  have hs := hr.str
  clear h hn hr HN4
  obtain ⟨z0, z1, z2, z3, z4, z5, z6, z7, z8, z9, z10, z11⟩ := Box.cs (hp1 H2.out HN5.out)
  simp only [m0e] at z0 z1 z2 z3 z4 z5 z6 z7 z8 z9 z10 z11
  go_wp2_with fail
  clear z0 z1 z2 z3 z4 z5 z6 z7 z8 z9 z10 z11 hs
  have hP := pPut_any 0 14 0 0 3 0 0 0 0 [1, 2] ⟨#[]⟩ ⟨#[]⟩ (.slice (some ⟨w.heap.size, 0, none⟩) 2 2) (.slice none 0 0) (.slice none 0 0) [] w5 (by decide) (by decide) (by decide) (by decide) (by decide) (by decide) (by decide) (by decide) (by decide) (by simp) (by decide) (by decide) (by decide) (by decide)
    (Bytes.nil _) (HS.out.new HN5.out) (Rd.nil _) (fun k h => by cases h) (fun k h => by cases h) (fun k h => by cases h; exact Nat.lt_of_lt_of_le HG.out HN5.out.size) (fun k h => by cases h) (by decide)
  rw [List.nil_append, bytes0e] at hP
  refine hP.mono ?_
  clear hP
  rintro e w6 h
  obtain ⟨v6, rfl, hr, hn⟩ := Post.nil h
  have HN6 := hid (New.trans HN5.out hn)
  have hs := hr.str
  clear h hn hr HN5
  go_wp2_with fail
  go_ret
  exact ⟨rfl, New.trans HN.out HN6.out⟩
end Go.Proofs.Ytnngibflnnmioaa
