/-
  The laws of the cursor: the chapter's example.
-/
import Derived.Test.YtkfohickmdkplaaJ45
import Derived.Test.YtkfohickmdkplaaJ20
namespace Go.Proofs.Cur
open Go.Proofs.Leb Go.Proofs.Span
/-- the example's want: so many items of one byte each, nothing behind -/
def x0 : Wnt := ⟨1, 0, 0, 1, 1, 0, 0, 0, 0, []⟩
theorem x0_may {r : Int} {n : Nat} (h0 : 0 ≤ r) (h1 : r ≤ 3) (hn : n < 4294967296) : x0.may r n ↔ (n : Int) = r := by
  unfold Wnt.may x0
  simp only [h0, hn, true_and]
  unfold makes has mul Span.most
  simp
  constructor
  · intro h
    split at h <;> omega
  · intro h
    subst h
    split <;> omega
end Go.Proofs.Cur
namespace Go.Proofs.Ytkfohickmdkplaa
open Go.RowKit Go.Proofs.Leb Go.Proofs.Own Go.Proofs.Cur Go.Proofs.Span
set_option maxRecDepth 100000
set_option maxHeartbeats 4000000
theorem x0_ok (w : World) : WantOk x0 (.slice none 0 0) w := by
  refine ⟨⟨by decide, by decide, fun _ => ?_, (fun h => by cases h), fun _ => ?_, by decide⟩, .inr (.inl rfl), ⟨none, 0, rfl, Nat.le_refl _, fun _ => rfl, fun h => absurd rfl h⟩, by decide, (fun y hy => by cases hy), (fun y hy => by cases hy)⟩
  · show Span.item 1 1
    unfold Span.item Span.right; decide
  · show Span.right 0 0
    unfold Span.right; decide
theorem x0_in {r : Int} {n : Nat} (h0 : 0 ≤ r) (h1 : r ≤ 3) (hn : n < 4294967296) : inW (wantL x0) r n ↔ (n : Int) = r :=
  (wantL_may (x0_ok default) r n h0 (by omega) hn).trans (x0_may h0 h1 hn)
def ba : List UInt8 := [0x81, 0, 7]
def bb : List UInt8 := [0x83, 0, 7]
theorem ua : uintO ba 3 (inW (wantL x0)) 0 = .ok [0x81, 0] 2 := by
  have m0 : mayU (inW (wantL x0)) [] 0x81 2 := by
    unfold mayU comes
    rw [if_neg (by decide)]
    refine ⟨1, by decide, by decide, by decide, 1, ?_, by decide, by decide, by decide⟩
    exact (x0_in (by decide) (by decide) (by decide)).2 (by decide)
  have m1 : mayU (inW (wantL x0)) [0x81] 0 1 := by
    unfold mayU comes
    rw [if_pos (by decide)]
    refine ⟨1, ?_, by decide, by decide, by decide⟩
    exact (x0_in (by decide) (by decide) (by decide)).2 (by decide)
  have b0 : byteO ba 3 (mayU (inW (wantL x0)) []) 0 = .ok 0x81 1 := by
    unfold byteO
    rw [if_neg (by decide), dif_pos (by decide)]
    exact if_pos m0
  have b1 : byteO ba 3 (mayU (inW (wantL x0)) [0x81]) 1 = .ok 0 2 := by
    unfold byteO
    rw [if_neg (by decide), dif_pos (by decide)]
    exact if_pos m1
  unfold uintO numO
  rw [b0]
  show (if (0x81 : UInt8).toNat < 128 then Out.ok ([] ++ [(0x81 : UInt8)]) 1 else numO ba 3 (mayU (inW (wantL x0))) 4 ([] ++ [(0x81 : UInt8)]) 1) = _
  rw [if_neg (by decide)]
  show numO ba 3 (mayU (inW (wantL x0))) 4 [0x81] 1 = _
  unfold numO
  rw [b1]
  show (if (0 : UInt8).toNat < 128 then Out.ok ([0x81] ++ [(0 : UInt8)]) 2 else numO ba 3 (mayU (inW (wantL x0))) 3 ([0x81] ++ [(0 : UInt8)]) 2) = _
  rw [if_pos (by decide)]
  rfl
theorem ub : uintO bb 3 (inW (wantL x0)) 0 = .up 0 2 := by
  have m0 : ¬ mayU (inW (wantL x0)) [] 0x83 2 := by
    unfold mayU comes
    rw [if_neg (by decide)]
    rintro ⟨j, h1, h2, h3, n, hs, hn, hm, -⟩
    have hb : behind 2 j = 2 - j := by unfold behind; rw [if_pos (by decide)]
    rw [hb] at hs
    have := (x0_in (by omega) (by omega) hn).1 hs
    have e : val ([] ++ [(0x83 : UInt8)]) = 3 := by decide
    rw [e] at hm
    have : n % 128 ^ (([] : List UInt8).length + 1) = n % 128 := rfl
    omega
  have b0 : byteO bb 3 (mayU (inW (wantL x0)) []) 0 = .up 0 2 := by
    unfold byteO
    rw [if_neg (by decide), dif_pos (by decide)]
    exact if_neg m0
  unfold uintO numO
  rw [b0]
  rfl
theorem ra : rawO ba 3 1 2 = .ok [7] 3 := by
  unfold rawO
  rw [if_pos (by decide)]
  rfl
/-- the example's two callbacks within a limit -/
theorem awake11_any (C Bc B1 B2 g : Nat) (v : Value) (w : World) (kc : One1 w Bc (.pointer (some ⟨C, 0, none⟩))) (k1 : One1 w B1 (.func (.func 49) #[] #[.pointer (some ⟨g, 0, none⟩)])) (k2 : One1 w B2 (.int .u32 9))
    (kg : w.heap[g]? = some (.cells (valW x0 (.slice none 0 0)) 47)) (h : Cur w C v ba 0 3 0) (n1 : Bc ≠ C) (n2 : B2 ≠ C) (n3 : g ≠ C) (n4 : Bc ≠ B2) (n5 : v.ownBlock ≠ some B2) :
    Calls Try.prog 40 #[.pointer (some ⟨Bc, 0, none⟩), .pointer (some ⟨B1, 0, none⟩), .pointer (some ⟨B2, 0, none⟩)] w
      (fun e w2 => Upd (fun k => k = C ∨ k = B2) w w2 ∧ Did C v ba 3 (.ok () 3) w2 e ∧ One1 w2 B2 (.int .u32 1)) := by
  have hi : Inv ba.length 3 0 := ⟨by decide, by decide, by decide⟩
  have HU := hid (Uint_any h hi 49 #[.pointer (some ⟨g, 0, none⟩)] (fun _ _ => rfl) (wantL x0)
    (fun r' w1 hu h0 h1 => want_any x0 _ g r' w1 (x0_ok w1) ((hu.block g (Array.getElem?_eq_some_iff.1 kg).1 n3).trans kg) h0 h1) (fun r => wantL_few (x0_ok w) r))
  rw [ua] at HU
  have z0 := kc.c
  have z1 := k1.c
  have z2 := k2.c
  have KC := hid kc
  have K2 := hid k2
  have H0 := hid h
  go_enter Try.func40, Try.ntmps40
  go_wp2_with fail
  refine HU.out.mono ?_
  rintro e w1 ⟨hu1, rfl, hc1⟩
  have k21 := K2.out.upd hu1 n2
  have kc1 := KC.out.upd hu1 n1
  have hs : Upd (· = B2) w1 (w1.setCell ⟨B2, 0, none⟩ (.int .u32 1)) := (Upd.refl (· = B2) w1).setCell (p := ⟨B2, 0, none⟩) (.inr rfl) _
  have hc2 : Cur (w1.setCell ⟨B2, 0, none⟩ (.int .u32 1)) C v ba 2 3 0 := hc1.upd hs (fun e => n2 e.symm) (fun _ k hk e => n5 (by rw [hk, e]))
  have z0' := (kc1.upd hs n4).c
  have z2' := (k21.put (v := .int .u32 1)).c
  have y2 := k21.c
  have f2 := k21.f
  have K22 := hid (k21.put (v := .int .u32 1))
  have U2 := hid ((hu1.mono (T := fun k => k = C ∨ k = B2) (fun k _ h => .inl h)).trans hs (fun k _ h => .inr h))
  have HR := hid (Raw_any hc2 ⟨by decide, by decide, by decide⟩ 1 (by decide) (by decide))
  rw [ra] at HR
  have hv : UintV [0x81, 0] = .int .u32 1 := by kernel_rfl
  rw [hv]
  clear kc k1 k2 h k21 kc1 hs hc1 hc2 hu1
  go_wp2_with fail
  refine HR.out.mono ?_
  rintro e w3 ⟨hu3, rfl, hc3⟩
  have U3 := hid (U2.out.trans hu3 (fun k _ h => .inl h))
  have K3 := hid (K22.out.upd hu3 n2)
  have HC3 := hid hc3
  clear hu3 hc3
  go_wp2_with fail
  go_end0
  exact ⟨U3.out, ⟨rfl, HC3.out⟩, K3.out⟩
theorem awake21_any (C Bc B1 g : Nat) (v : Value) (w : World) (kc : One1 w Bc (.pointer (some ⟨C, 0, none⟩))) (k1 : One1 w B1 (.func (.func 49) #[] #[.pointer (some ⟨g, 0, none⟩)]))
    (kg : w.heap[g]? = some (.cells (valW x0 (.slice none 0 0)) 47)) (h : Cur w C v bb 0 3 0) (n3 : g ≠ C) :
    Calls Try.prog 42 #[.pointer (some ⟨Bc, 0, none⟩), .pointer (some ⟨B1, 0, none⟩)] w
      (fun e w2 => Upd (fun k => k = C ∨ False) w w2 ∧ Did C v bb 3 (.up 0 2) w2 e ∧ True) := by
  have hi : Inv bb.length 3 0 := ⟨by decide, by decide, by decide⟩
  have HU := hid (Uint_any h hi 49 #[.pointer (some ⟨g, 0, none⟩)] (fun _ _ => rfl) (wantL x0)
    (fun r' w1 hu h0 h1 => want_any x0 _ g r' w1 (x0_ok w1) ((hu.block g (Array.getElem?_eq_some_iff.1 kg).1 n3).trans kg) h0 h1) (fun r => wantL_few (x0_ok w) r))
  rw [ub] at HU
  have z0 := kc.c
  have z1 := k1.c
  clear kc k1 h
  go_enter Try.func42, Try.ntmps42
  go_wp2_with fail
  refine HU.out.mono ?_
  rintro e w1 ⟨hu1, rfl, hc1⟩
  have U1 := hid hu1
  have HC1 := hid hc1
  clear hu1 hc1
  go_wp2_with fail
  exact ⟨rfl, U1.out.mono (fun k _ h => .inl h), ⟨rfl, HC1.out⟩, trivial⟩
end Go.Proofs.Ytkfohickmdkplaa
