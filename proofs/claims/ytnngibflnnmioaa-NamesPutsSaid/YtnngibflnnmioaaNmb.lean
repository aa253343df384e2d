/-
  Names: whether they may be: the program's Right.
-/
import Derived.Test.YtnngibflnnmioaaNma
namespace Go.Proofs.Ytnngibflnnmioaa
open Go.RowKit Go.Proofs.Leb Go.Proofs.Own
set_option maxRecDepth 100000
set_option maxHeartbeats 4000000

theorem boolOf (q : Prop) : ∃ b : Bool, (b = true ↔ q) := by
  by_cases h : q
  · exact ⟨true, by simp [h]⟩
  · exact ⟨false, by simp [h]⟩
/-- lists that are no more than can be looked at -/
def SzN (xs : List (Nat × ByteArray)) : Prop := xs.length ≤ 10000 ∧ ∀ x ∈ xs, x.2.size ≤ 100000
def SzL (ls : List (Nat × List (Nat × ByteArray))) : Prop := ls.length ≤ 10000 ∧ ∀ x ∈ ls, SzN x.2
theorem namesRight_any {B : Nat → Prop} (v : Value) (xs : List (Nat × ByteArray)) (w : World) (hr : RdE 2 (E2 FN) w B v xs) (hs : SzN xs) :
    Calls Try.prog 54 #[v] w (SameP (NRight xs) w) := by
  have HR := hid (fun w' (hn : New w w') => rise79 v xs w' (hr.new (E2.ok FN.ok) hn) (by have := hs.1; omega))
  have HC := hid (fun w' (hn : New w w') => conf81 FN.ok (fun s => textV s = false) v xs w' (hr.new (E2.ok FN.ok) hn) (by have := hs.1; omega)
    (fun x u w' hx hu => by
      have hu : u = .string x.2 := hu
      subst hu
      exact nm_wrong x.1 x.2 w' (by have := hs.2 x hx; omega)))
  obtain ⟨a, cap, rfl⟩ := hr.shape
  clear hr hs
  go_enter Try.func54, Try.ntmps54
  go_wp2_with fail
  refine (HR.out _ (Upd.refl _ _)).mono ?_
  rintro e w2 ⟨b, rfl, hb, hn⟩
  cases b with
  | false =>
    have HB := hid (fun h => Bool.noConfusion (hb.2 h) : ¬ Rises (xs.map (·.1)))
    have HN := hid hn
    clear hb hn
    go_wp2_with fail
    go_ret
    exact ⟨_, rfl, iff_of_false (by decide) (fun h => HB.out h.1), HN.out⟩
  | true =>
    have HB := hid (hb.1 rfl)
    have HN := hid hn
    clear hb hn
    go_wp2_with fail
    refine (HC.out _ HN.out).mono ?_
    rintro e w3 ⟨b, rfl, hb, hn⟩
    have HB2 := hid hb
    have HN2 := hid (New.trans HN.out hn)
    clear hb hn
    go_wp2_with fail
    go_ret
    refine ⟨_, rfl, ?_, HN2.out⟩
    rw [Bool.not_eq_true', ← Bool.not_eq_true]
    constructor
    · intro h
      refine ⟨HB.out, fun x hx => ?_⟩
      cases ht : textV x.2 with
      | true => rfl
      | false => exact absurd (HB2.out.2 ⟨x, hx, ht⟩) h
    · rintro ⟨_, h⟩ hb
      obtain ⟨x, hx, ht⟩ := HB2.out.1 hb
      rw [h x hx] at ht
      cases ht
theorem lc_wrong {B : Nat → Prop} (n : Nat) (u : Value) (xs : List (Nat × ByteArray)) (w : World) (hr : RdE 2 (E2 FN) w B u xs) (hs : SzN xs) :
    Calls Try.prog 53 #[.agg #[.int .u32 n, u]] w (SameP (¬ NRight xs) w) := by
  have HR := hid (fun w' (hn : New w w') => namesRight_any u xs w' (hr.new (E2.ok FN.ok) hn) hs)
  obtain ⟨a, cap, rfl⟩ := hr.shape
  have HN := hid (fun o => (Upd.refl (fun _ => False) w).alloc o)
  clear hr
  go_enter Try.func53, Try.ntmps53
  go_wp2_with fail
  refine (HR.out _ (HN.out _)).mono ?_
  rintro e w2 ⟨b, rfl, hb, hn⟩
  have HB := hid hb
  have HN2 := hid (New.trans (HN.out _) hn)
  clear hb hn
  go_wp2_with fail
  go_ret
  exact ⟨_, rfl, by rw [← HB.out]; cases b <;> simp, HN2.out⟩

theorem tlz (s : ByteArray) : s.toList = [] ↔ s.size = 0 := by
  rw [ByteArray.toList_eq]
  constructor
  · intro h
    have := congrArg List.length h
    simpa using this
  · intro h
    have : s.data.toList.length = 0 := by simpa using h
    exact List.eq_nil_of_length_eq_zero this
/-- a module's names -/
structure Nms where
  hm : Bool
  hf : Bool
  hl : Bool
  md : ByteArray
  fs : List (Nat × ByteArray)
  ls : List (Nat × List (Nat × ByteArray))
def nv (N : Nms) (f l : Value) : Value := .agg #[.bool N.hm, .bool N.hf, .bool N.hl, .string N.md, f, l]
def Sz (N : Nms) : Prop := N.md.size ≤ 100000 ∧ SzN N.fs ∧ SzL N.ls
def Lack (N : Nms) : Prop := (N.hm = true ∨ N.md.size = 0) ∧ (N.hf = true ∨ N.fs.length = 0) ∧ (N.hl = true ∨ N.ls.length = 0)
def NsRight (N : Nms) : Prop := Lack N ∧ textV N.md = true ∧ NRight N.fs ∧ Rises (N.ls.map (·.1)) ∧ ∀ x ∈ N.ls, NRight x.2
def NBox (w : World) (g : Nat) (N : Nms) (f l : Value) (T : TypeId) : Prop := w.heap[g]? = some (.cells #[.bool N.hm, .bool N.hf, .bool N.hl, .string N.md, f, l] T)
theorem NBox.cs {w : World} {g : Nat} {N : Nms} {f l : Value} {T : TypeId} (h : NBox w g N f l T) : w.cell? ⟨g, 0, none⟩ = some (.bool N.hm) ∧ w.cell? ⟨g, 1, none⟩ = some (.bool N.hf) ∧ w.cell? ⟨g, 2, none⟩ = some (.bool N.hl) ∧
    w.cell? ⟨g, 3, none⟩ = some (.string N.md) ∧ w.cell? ⟨g, 4, none⟩ = some f ∧ w.cell? ⟨g, 5, none⟩ = some l :=
  ⟨cellAt h 0 rfl, cellAt h 1 rfl, cellAt h 2 rfl, cellAt h 3 rfl, cellAt h 4 rfl, cellAt h 5 rfl⟩
theorem nsRight_any {B : Nat → Prop} (N : Nms) (f l : Value) (w : World) (h1 : RdE 2 (E2 FN) w B f N.fs) (h2 : RdE 2 (E2 FL) w B l N.ls) (hs : Sz N) :
    Calls Try.prog 18 #[nv N f l] w (SameP (NsRight N) w) := by
  have HV := hid (fun w => Valid_any N.md w (by have := hs.1; omega))
  have HF := hid (fun w' (hn : New w w') => namesRight_any f N.fs w' (h1.new (E2.ok FN.ok) hn) hs.2.1)
  have HI := hid (fun w' (hn : New w w') => rise56 l N.ls w' (h2.new (E2.ok FL.ok) hn) (by have := hs.2.2.1; omega))
  have HC := hid (fun w' (hn : New w w') => conf58 FL.ok (fun y => ¬ NRight y) l N.ls w' (h2.new (E2.ok FL.ok) hn) (by have := hs.2.2.1; omega)
    (fun x u w' hx hu => lc_wrong x.1 u x.2 w' hu (hs.2.2.2 x hx)))
  obtain ⟨a1, c1, rfl⟩ := h1.shape
  obtain ⟨a2, c2, rfl⟩ := h2.shape
  clear h1 h2
  obtain ⟨hm, hf, hl, md, fs, ls⟩ := N
  obtain ⟨w2, hw2⟩ : ∃ w2, w.alloc (.cells #[.bool hm, .bool hf, .bool hl, .string md, .slice a1 fs.length c1, .slice a2 ls.length c2] 50) = w2 := ⟨_, rfl⟩
  have HN : Hid (New w w2) := by show New _ _; rw [← hw2]; exact (Upd.refl _ _).alloc _
  have HB : Hid (NBox w2 w.heap.size ⟨hm, hf, hl, md, fs, ls⟩ (.slice a1 fs.length c1) (.slice a2 ls.length c2) 50) := by show NBox _ _ _ _ _ _; rw [← hw2]; exact hp_new rfl
  obtain ⟨z0, z1, z2, z3, z4, z5⟩ := HB.out.cs
  unfold nv
  simp only at *
  have HW := hid hw2
  clear hw2 hs
  go_enter Try.func18, Try.ntmps18
  go_upto_region 1 with fail
  rw [HW.out]
  clear HW
  generalize Value.agg #[.bool hm, .bool hf, .bool hl, .string md, .slice a1 fs.length c1, .slice a2 ls.length c2] = A0
  obtain ⟨bad, hbad⟩ := boolOf (¬ Lack ⟨hm, hf, hl, md, fs, ls⟩)
  have HBD := hid hbad
  clear hbad
  go_cut [33] (fun t wx => t = .bool bad ∧ wx = w2)
  case first =>
    go_wp2_with fail
    all_goals
      first
        | exact absurd ‹some undef = some (Value.bool _)› (by simp [undef])
        | exact absurd (List.length_pos_iff.2 ‹¬ fs = []›) ‹¬ 0 < fs.length›
        | exact absurd (List.length_pos_iff.2 ‹¬ ls = []›) ‹¬ 0 < ls.length›
        | skip
    all_goals
      go_meet
      refine ⟨?_, rfl⟩
      show Value.bool _ = Value.bool bad
      congr 1
      rw [Bool.eq_iff_iff, HBD.out]
      clear HV HF HI HC HN HB HBD z0 z1 z2 z3 z4 z5
      unfold Lack
      have hz := tlz md
      first
        | (simp_all; done)
        | (simp_all [List.length_pos_iff]; done)
  case rest =>
    obtain ⟨rfl, hw⟩ := hcut
    subst wc
    cases bad with
    | true =>
      have HB2 := hid (HBD.out.1 rfl)
      clear HBD z0 z1 z2 z3 z4 z5
      go_wp2_with fail
      go_ret
      exact ⟨_, rfl, iff_of_false (by decide) (fun h => HB2.out h.1), HN.out⟩
    | false =>
      have HB2 : Hid (Lack ⟨hm, hf, hl, md, fs, ls⟩) := Classical.byContradiction fun h => Bool.noConfusion (HBD.out.2 h)
      clear HBD
      go_wp2_with fail
      refine (HV.out _).mono ?_
      rintro e w3 ⟨rfl, rfl⟩
      obtain ⟨t, ht⟩ : ∃ t, ((Utf.need md.data.toList).2 && decide ((Utf.need md.data.toList).1 = 0)) = t := ⟨_, rfl⟩
      rw [ht]
      have HT : Hid (textV md = t) := ht
      clear ht
      cases t with
      | false =>
        go_wp2_with fail
        go_ret
        exact ⟨_, rfl, iff_of_false (by decide) (fun h => by have := h.2.1; rw [HT.out] at this; cases this), HN.out⟩
      | true =>
      go_wp2_with fail
      clear z0 z1 z2 z3 z4 z5
      refine (HF.out _ HN.out).mono ?_
      rintro e w4 ⟨b, rfl, hb, hn⟩
      have HN4 := hid (New.trans HN.out hn)
      obtain ⟨z0, z1, z2, z3, z4, z5⟩ := NBox.cs (hp1 HB.out hn)
      simp only at z0 z1 z2 z3 z4 z5
      cases b with
      | false =>
        have HB3 := hid (fun h => Bool.noConfusion (hb.2 h) : ¬ NRight fs)
        clear hb hn
        go_wp2_with fail
        go_ret
        exact ⟨_, rfl, iff_of_false (by decide) (fun h => HB3.out h.2.2.1), HN4.out⟩
      | true =>
      have HB3 := hid (hb.1 rfl)
      have HBX : Hid (NBox w4 w.heap.size ⟨hm, hf, hl, md, fs, ls⟩ (.slice a1 fs.length c1) (.slice a2 ls.length c2) 50) := hp1 HB.out hn
      clear hb hn HB
      go_wp2_with fail
      clear z0 z1 z2 z3 z4 z5
      refine (HI.out _ HN4.out).mono ?_
      rintro e w5 ⟨b, rfl, hb, hn⟩
      have HN5 := hid (New.trans HN4.out hn)
      obtain ⟨z0, z1, z2, z3, z4, z5⟩ := NBox.cs (hp1 HBX.out hn)
      simp only at z0 z1 z2 z3 z4 z5
      cases b with
      | false =>
        have HB4 := hid (fun h => Bool.noConfusion (hb.2 h) : ¬ Rises (ls.map (·.1)))
        clear hb hn
        go_wp2_with fail
        go_ret
        exact ⟨_, rfl, iff_of_false (by decide) (fun h => HB4.out h.2.2.2.1), HN5.out⟩
      | true =>
      have HB4 := hid (hb.1 rfl)
      clear hb hn
      go_wp2_with fail
      clear z0 z1 z2 z3 z4 z5
      refine (HC.out _ HN5.out).mono ?_
      rintro e w6 ⟨b, rfl, hb, hn⟩
      have HN6 := hid (New.trans HN5.out hn)
      have HB5 := hid hb
      clear hb hn
      go_wp2_with fail
      go_ret
      refine ⟨_, rfl, ?_, HN6.out⟩
      rw [Bool.not_eq_true', ← Bool.not_eq_true]
      constructor
      · intro h
        exact ⟨HB2.out, HT.out, HB3.out, HB4.out, fun x hx => Classical.byContradiction fun hx2 => h (HB5.out.2 ⟨x, hx, hx2⟩)⟩
      · rintro h hb
        obtain ⟨x, hx, hx2⟩ := HB5.out.1 hb
        exact hx2 (h.2.2.2.2 x hx)
end Go.Proofs.Ytnngibflnnmioaa
