/-
  The laws of the cursor: the chapter's example.
-/
import Derived.Test.YtkfohickmdkplaaJ8
import Derived.Test.YtkfohickmdkplaaJ7
import Derived.Laws.EntriesVeiled
import Derived.Test.YtkfohickmdkplaaJ9
import Derived.Test.YtkfohickmdkplaaJ3
import Derived.Deep.QuietTactic
namespace Go.Proofs.Cur
open Go.Proofs.Leb Go.Proofs.Span
/-- the example's want: so many items of one byte each, nothing behind -/
def x0 : Wnt := ⟨1, 0, 0, 1, 1, 0, 0, 0, 0, []⟩
theorem x0_may {r : Int} {n : Nat} (h0 : 0 ≤ r) (h1 : r ≤ 3) (hn : n < 4294967296) : x0.may r n ↔ (n : Int) = r := by
  unfold Wnt.may x0
  simp only [h0, hn, true_and]
  unfold makes has mul Span.most
  simp
  constructor
  · intro h
    split at h <;> omega
  · intro h
    subst h
    split <;> omega
end Go.Proofs.Cur
namespace Go.Proofs.Ytkfohickmdkplaa
open Go.RowKit Go.Proofs.Leb Go.Proofs.Own Go.Proofs.Cur Go.Proofs.Span
set_option maxRecDepth 100000
set_option maxHeartbeats 4000000
theorem x0_ok (w : World) : WantOk x0 (.slice none 0 0) w := by
  refine ⟨⟨by decide, by decide, fun _ => ?_, (fun h => by cases h), fun _ => ?_, by decide⟩, .inr (.inl rfl), ⟨none, 0, rfl, Nat.le_refl _, fun _ => rfl, fun h => absurd rfl h⟩, by decide, (fun y hy => by cases hy), (fun y hy => by cases hy)⟩
  · show Span.item 1 1
    unfold Span.item Span.right; decide
  · show Span.right 0 0
    unfold Span.right; decide
theorem x0_in {r : Int} {n : Nat} (h0 : 0 ≤ r) (h1 : r ≤ 3) (hn : n < 4294967296) : inW (wantL x0) r n ↔ (n : Int) = r :=
  (wantL_may (x0_ok default) r n h0 (by omega) hn).trans (x0_may h0 h1 hn)
def ba : List UInt8 := [0x81, 0, 7]
def bb : List UInt8 := [0x83, 0, 7]
theorem ua : uintO ba 3 (inW (wantL x0)) 0 = .ok [0x81, 0] 2 := by
  have m0 : mayU (inW (wantL x0)) [] 0x81 2 := by
    unfold mayU comes
    rw [if_neg (by decide)]
    refine ⟨1, by decide, by decide, by decide, 1, ?_, by decide, by decide, by decide⟩
    exact (x0_in (by decide) (by decide) (by decide)).2 (by decide)
  have m1 : mayU (inW (wantL x0)) [0x81] 0 1 := by
    unfold mayU comes
    rw [if_pos (by decide)]
    refine ⟨1, ?_, by decide, by decide, by decide⟩
    exact (x0_in (by decide) (by decide) (by decide)).2 (by decide)
  have b0 : byteO ba 3 (mayU (inW (wantL x0)) []) 0 = .ok 0x81 1 := by
    unfold byteO
    rw [if_neg (by decide), dif_pos (by decide)]
    exact if_pos m0
  have b1 : byteO ba 3 (mayU (inW (wantL x0)) [0x81]) 1 = .ok 0 2 := by
    unfold byteO
    rw [if_neg (by decide), dif_pos (by decide)]
    exact if_pos m1
  unfold uintO numO
  rw [b0]
  show (if (0x81 : UInt8).toNat < 128 then Out.ok ([] ++ [(0x81 : UInt8)]) 1 else numO ba 3 (mayU (inW (wantL x0))) 4 ([] ++ [(0x81 : UInt8)]) 1) = _
  rw [if_neg (by decide)]
  show numO ba 3 (mayU (inW (wantL x0))) 4 [0x81] 1 = _
  unfold numO
  rw [b1]
  show (if (0 : UInt8).toNat < 128 then Out.ok ([0x81] ++ [(0 : UInt8)]) 2 else numO ba 3 (mayU (inW (wantL x0))) 3 ([0x81] ++ [(0 : UInt8)]) 2) = _
  rw [if_pos (by decide)]
  rfl
theorem ub : uintO bb 3 (inW (wantL x0)) 0 = .up 0 2 := by
  have m0 : ¬ mayU (inW (wantL x0)) [] 0x83 2 := by
    unfold mayU comes
    rw [if_neg (by decide)]
    rintro ⟨j, h1, h2, h3, n, hs, hn, hm, -⟩
    have hb : behind 2 j = 2 - j := by unfold behind; rw [if_pos (by decide)]
    rw [hb] at hs
    have := (x0_in (by omega) (by omega) hn).1 hs
    have e : val ([] ++ [(0x83 : UInt8)]) = 3 := by decide
    rw [e] at hm
    have : n % 128 ^ (([] : List UInt8).length + 1) = n % 128 := rfl
    omega
  have b0 : byteO bb 3 (mayU (inW (wantL x0)) []) 0 = .up 0 2 := by
    unfold byteO
    rw [if_neg (by decide), dif_pos (by decide)]
    exact if_neg m0
  unfold uintO numO
  rw [b0]
  rfl
theorem ra : rawO ba 3 1 2 = .ok [7] 3 := by
  unfold rawO
  rw [if_pos (by decide)]
  rfl
/-- the example's two callbacks within a limit -/
theorem awake11_any (C Bc B1 B2 g : Nat) (v : Value) (w : World) (kc : One1 w Bc (.pointer (some ⟨C, 0, none⟩))) (k1 : One1 w B1 (.func (.func 49) #[] #[.pointer (some ⟨g, 0, none⟩)])) (k2 : One1 w B2 (.int .u32 9))
    (kg : w.heap[g]? = some (.cells (valW x0 (.slice none 0 0)) 47)) (h : Cur w C v ba 0 3 0) (n1 : Bc ≠ C) (n2 : B2 ≠ C) (n3 : g ≠ C) (n4 : Bc ≠ B2) (n5 : v.ownBlock ≠ some B2) :
    Calls Try.prog 40 #[.pointer (some ⟨Bc, 0, none⟩), .pointer (some ⟨B1, 0, none⟩), .pointer (some ⟨B2, 0, none⟩)] w
      (fun e w2 => Upd (fun k => k = C ∨ k = B2) w w2 ∧ Did C v ba 3 (.ok () 3) w2 e ∧ One1 w2 B2 (.int .u32 1)) := by
  have hi : Inv ba.length 3 0 := ⟨by decide, by decide, by decide⟩
  have HU := hid (Uint_any h hi 49 #[.pointer (some ⟨g, 0, none⟩)] (fun _ _ => rfl) (wantL x0)
    (fun r' w1 hu h0 h1 => want_any x0 _ g r' w1 (x0_ok w1) ((hu.block g (Array.getElem?_eq_some_iff.1 kg).1 n3).trans kg) h0 h1) (fun r => wantL_few (x0_ok w) r))
  rw [ua] at HU
  have z0 := kc.c
  have z1 := k1.c
  have z2 := k2.c
  have KC := hid kc
  have K2 := hid k2
  have H0 := hid h
  go_enter Try.func40, Try.ntmps40
  go_wp2_with fail
  refine HU.out.mono ?_
  rintro e w1 ⟨hu1, rfl, hc1⟩
  have k21 := K2.out.upd hu1 n2
  have kc1 := KC.out.upd hu1 n1
  have hs : Upd (· = B2) w1 (w1.setCell ⟨B2, 0, none⟩ (.int .u32 1)) := (Upd.refl (· = B2) w1).setCell (p := ⟨B2, 0, none⟩) (.inr rfl) _
  have hc2 : Cur (w1.setCell ⟨B2, 0, none⟩ (.int .u32 1)) C v ba 2 3 0 := hc1.upd hs (fun e => n2 e.symm) (fun _ k hk e => n5 (by rw [hk, e]))
  have z0' := (kc1.upd hs n4).c
  have z2' := (k21.put (v := .int .u32 1)).c
  have y2 := k21.c
  have f2 := k21.f
  have K22 := hid (k21.put (v := .int .u32 1))
  have U2 := hid ((hu1.mono (T := fun k => k = C ∨ k = B2) (fun k _ h => .inl h)).trans hs (fun k _ h => .inr h))
  have HR := hid (Raw_any hc2 ⟨by decide, by decide, by decide⟩ 1 (by decide) (by decide))
  rw [ra] at HR
  have hv : UintV [0x81, 0] = .int .u32 1 := by kernel_rfl
  rw [hv]
  clear kc k1 k2 h k21 kc1 hs hc1 hc2 hu1
  go_wp2_with fail
  refine HR.out.mono ?_
  rintro e w3 ⟨hu3, rfl, hc3⟩
  have U3 := hid (U2.out.trans hu3 (fun k _ h => .inl h))
  have K3 := hid (K22.out.upd hu3 n2)
  have HC3 := hid hc3
  clear hu3 hc3
  go_wp2_with fail
  go_end0
  exact ⟨U3.out, ⟨rfl, HC3.out⟩, K3.out⟩
theorem awake21_any (C Bc B1 g : Nat) (v : Value) (w : World) (kc : One1 w Bc (.pointer (some ⟨C, 0, none⟩))) (k1 : One1 w B1 (.func (.func 49) #[] #[.pointer (some ⟨g, 0, none⟩)]))
    (kg : w.heap[g]? = some (.cells (valW x0 (.slice none 0 0)) 47)) (h : Cur w C v bb 0 3 0) (n3 : g ≠ C) :
    Calls Try.prog 42 #[.pointer (some ⟨Bc, 0, none⟩), .pointer (some ⟨B1, 0, none⟩)] w
      (fun e w2 => Upd (fun k => k = C ∨ False) w w2 ∧ Did C v bb 3 (.up 0 2) w2 e ∧ True) := by
  have hi : Inv bb.length 3 0 := ⟨by decide, by decide, by decide⟩
  have HU := hid (Uint_any h hi 49 #[.pointer (some ⟨g, 0, none⟩)] (fun _ _ => rfl) (wantL x0)
    (fun r' w1 hu h0 h1 => want_any x0 _ g r' w1 (x0_ok w1) ((hu.block g (Array.getElem?_eq_some_iff.1 kg).1 n3).trans kg) h0 h1) (fun r => wantL_few (x0_ok w) r))
  rw [ub] at HU
  have z0 := kc.c
  have z1 := k1.c
  clear kc k1 h
  go_enter Try.func42, Try.ntmps42
  go_wp2_with fail
  refine HU.out.mono ?_
  rintro e w1 ⟨hu1, rfl, hc1⟩
  have U1 := hid hu1
  have HC1 := hid hc1
  clear hu1 hc1
  go_wp2_with fail
  exact ⟨rfl, U1.out.mono (fun k _ h => .inl h), ⟨rfl, HC1.out⟩, trivial⟩
end Go.Proofs.Ytkfohickmdkplaa

namespace Go.Proofs.Ytkfohickmdkplaa
open Go.RowKit Go.Proofs.Leb Go.Proofs.Own Go.Proofs.Cur Go.Proofs.Span
set_option maxRecDepth 100000
set_option maxHeartbeats 4000000
theorem awake1_any (C B1 B2 g : Nat) (v : Value) (w : World) (k1 : One1 w B1 (.func (.func 49) #[] #[.pointer (some ⟨g, 0, none⟩)])) (k2 : One1 w B2 (.int .u32 9))
    (kg : w.heap[g]? = some (.cells (valW x0 (.slice none 0 0)) 47)) (h : Cur w C v ba 0 (-1) 0) (n1 : B1 ≠ C) (n2 : B2 ≠ C) (n3 : g ≠ C) (n5 : v.ownBlock ≠ some B2) :
    Calls Try.prog 39 #[.pointer (some ⟨C, 0, none⟩), .pointer (some ⟨B1, 0, none⟩), .pointer (some ⟨B2, 0, none⟩)] w
      (fun e w2 => Upd (fun k => k = C ∨ k = B2) w w2 ∧ Did C v ba (-1) (.ok () 3) w2 e ∧ One1 w2 B2 (.int .u32 1)) := by
  have hC := h.lt
  have h2 := k2.lt
  have hn : New w (w.alloc (.cells #[.pointer (some ⟨C, 0, none⟩)] 29)) := (Upd.refl _ _).alloc _
  have hl : limO 3 (-1) 0 = 3 := by decide
  have kc : One1 (w.alloc (.cells #[.pointer (some ⟨C, 0, none⟩)] 29)) w.heap.size (.pointer (some ⟨C, 0, none⟩)) := One1.mk rfl
  have hgl := (Array.getElem?_eq_some_iff.1 kg).1
  have HWI := hid (Within_any (h.new hn) ⟨by decide, by decide, .inl rfl⟩ 3 (by decide) (by decide) 40 #[.pointer (some ⟨w.heap.size, 0, none⟩), .pointer (some ⟨B1, 0, none⟩), .pointer (some ⟨B2, 0, none⟩)] (fun _ _ => rfl)
    (· = B2) (fun k hk => by have := hn.size; omega) (.ok () 3) (fun W => One1 W B2 (.int .u32 1)) (fun a b hu ha => ha.upd hu n2) (fun q hq => by rw [hl]; cases hq; exact ⟨by decide, by decide, by decide⟩)
    (fun w1 hu hc => by
      rw [hl] at hc ⊢
      exact awake11_any C w.heap.size B1 B2 g v w1 (kc.upd hu (by omega)) ((k1.new hn).upd hu n1) ((k2.new hn).upd hu n2) ((hu.block g (by have := hn.size; omega) n3).trans ((hn.block g hgl (fun h => h)).trans kg)) hc (by omega) n2 n3 (by omega) n5))
  have hw3 : withinO 3 (.ok () 3) = .ok () 3 := by
    show (if rest 3 3 = 0 then Out.ok () 3 else Out.up 3 2) = _
    rw [if_pos (by decide)]
  rw [hl, hw3] at HWI
  have hmf : ∀ (fn : Fn) (first cap : Array Value) (w : World), (Instr.makeFunc fn first cap).run Try.prog w = .ok (.func fn first cap) w := fun _ _ _ _ => rfl
  have z0 := kc.c
  have HN := hid hn
  clear k1 k2 h hn kc
  go_enter Try.func39, Try.ntmps39
  go_wp2_with fail
  refine HWI.out.mono ?_
  rintro e w1 ⟨hu1, hd1, k1⟩
  have HD := hid hd1
  have U1 := hid ((New.upd HN.out).trans hu1 (fun _ _ h => h))
  have K1 := hid k1
  obtain ⟨rfl, -⟩ := hd1
  clear hu1 k1
  go_wp2_with fail
  go_end0
  exact ⟨U1.out, HD.out, K1.out⟩
theorem awake2_any (C B1 g : Nat) (v : Value) (w : World) (k1 : One1 w B1 (.func (.func 49) #[] #[.pointer (some ⟨g, 0, none⟩)]))
    (kg : w.heap[g]? = some (.cells (valW x0 (.slice none 0 0)) 47)) (h : Cur w C v bb 0 (-1) 0) (n1 : B1 ≠ C) (n3 : g ≠ C) :
    Calls Try.prog 41 #[.pointer (some ⟨C, 0, none⟩), .pointer (some ⟨B1, 0, none⟩)] w
      (fun e w2 => Upd (fun k => k = C ∨ False) w w2 ∧ Did C v bb (-1) (.up 0 2) w2 e ∧ True) := by
  have hC := h.lt
  have hn : New w (w.alloc (.cells #[.pointer (some ⟨C, 0, none⟩)] 29)) := (Upd.refl _ _).alloc _
  have hl : limO 3 (-1) 0 = 3 := by decide
  have kc : One1 (w.alloc (.cells #[.pointer (some ⟨C, 0, none⟩)] 29)) w.heap.size (.pointer (some ⟨C, 0, none⟩)) := One1.mk rfl
  have hgl := (Array.getElem?_eq_some_iff.1 kg).1
  have HWI := hid (Within_any (h.new hn) ⟨by decide, by decide, .inl rfl⟩ 3 (by decide) (by decide) 42 #[.pointer (some ⟨w.heap.size, 0, none⟩), .pointer (some ⟨B1, 0, none⟩)] (fun _ _ => rfl)
    (fun _ => False) (fun k hk => hk.elim) (.up 0 2) (fun _ => True) (fun a b hu ha => trivial) (fun q hq => by cases hq)
    (fun w1 hu hc => by
      rw [hl] at hc ⊢
      exact awake21_any C w.heap.size B1 g v w1 (kc.upd hu (by omega)) ((k1.new hn).upd hu n1) ((hu.block g (by have := hn.size; omega) n3).trans ((hn.block g hgl (fun h => h)).trans kg)) hc n3))
  rw [hl, show withinO 3 (.up 0 2) = .up 0 2 from rfl] at HWI
  have hmf : ∀ (fn : Fn) (first cap : Array Value) (w : World), (Instr.makeFunc fn first cap).run Try.prog w = .ok (.func fn first cap) w := fun _ _ _ _ => rfl
  have z0 := kc.c
  have HN := hid hn
  clear k1 h hn kc
  go_enter Try.func41, Try.ntmps41
  go_wp2_with fail
  refine HWI.out.mono ?_
  rintro e w1 ⟨hu1, hd1, -⟩
  have HD := hid hd1
  have U1 := hid ((New.upd HN.out).trans hu1 (fun _ _ h => h))
  obtain ⟨rfl, -⟩ := hd1
  clear hu1
  go_wp2_with fail
  exact ⟨rfl, U1.out, HD.out, trivial⟩
/-- three bytes in a row of their own -/
theorem three_rd (w : World) (x y z : UInt8) : Rd (w.alloc (.cells #[.int .u8 x.toNat, .int .u8 y.toNat, .int .u8 z.toNat] 5)) (.slice (some ⟨w.heap.size, 0, none⟩) 3 3) [x, y, z] := by
  refine ⟨_, 3, rfl, Nat.le_refl 3, (fun h => by cases h), fun _ => ⟨_, 0, rfl, fun i hi => ?_⟩⟩
  have h : (w.alloc (.cells #[.int .u8 x.toNat, .int .u8 y.toNat, .int .u8 z.toNat] 5)).heap[w.heap.size]? = some (.cells #[.int .u8 x.toNat, .int .u8 y.toNat, .int .u8 z.toNat] 5) := hp_new rfl
  rw [cell_of_row _ _ (0 + i) _ _ (0, 0) h]
  match i, hi with
  | 0, _ => rfl
  | 1, _ => rfl
  | 2, _ => rfl
/-- the first try -/
theorem try1_any (w2 : World) (B1 B2 g : Nat) (k1 : One1 w2 B1 (.func (.func 49) #[] #[.pointer (some ⟨g, 0, none⟩)])) (k2 : One1 w2 B2 (.int .u32 9)) (hg : w2.heap[g]? = some (.cells (valW x0 (.slice none 0 0)) 47)) :
    Calls Try.prog 6 #[.slice (some ⟨w2.heap.size, 0, none⟩) 3 3, .func (.func 39) #[] #[.pointer (some ⟨B1, 0, none⟩), .pointer (some ⟨B2, 0, none⟩)]] (w2.alloc (.cells #[.int .u8 129, .int .u8 0, .int .u8 7] 5))
      fun e w' => e = .returned (.tuple #[.int .i64 3, .int .i64 0]) ∧ Upd (· = B2) w2 w' ∧ One1 w' B2 (.int .u32 1) := by
  have hn3 : New w2 (w2.alloc (.cells #[.int .u8 129, .int .u8 0, .int .u8 7] 5)) := (Upd.refl _ _).alloc _
  have hs3 : (w2.alloc (.cells #[.int .u8 129, .int .u8 0, .int .u8 7] 5)).heap.size = w2.heap.size + 1 := by simp
  have hr := three_rd w2 129 0 7
  have l1 := k1.lt
  have l2 := k2.lt
  have lg := (Array.getElem?_eq_some_iff.1 hg).1
  have hr' : Rd (w2.alloc (.cells #[.int .u8 129, .int .u8 0, .int .u8 7] 5)) (.slice (some ⟨w2.heap.size, 0, none⟩) 3 3) ba := hr
  generalize (w2.alloc (.cells #[.int .u8 129, .int .u8 0, .int .u8 7] 5)) = w3 at *
  have hown : ∀ k, (Value.slice (some ⟨w2.heap.size, 0, none⟩) 3 3).ownBlock = some k → k ≠ B2 := fun k hk => by
    have h1 : w2.heap.size = k := Option.some.inj hk
    omega
  refine (Try_any (.slice (some ⟨w2.heap.size, 0, none⟩) 3 3) ba w3 hr' (by decide) 39 #[.pointer (some ⟨B1, 0, none⟩), .pointer (some ⟨B2, 0, none⟩)] (fun _ _ => rfl)
    (· = B2) (fun k hk => by omega) (fun _ k hk e => hown k hk e) (.ok () 3) (fun W => One1 W B2 (.int .u32 1))
    (fun a b hu ha => ha.upd hu (fun h => by omega))
    (fun w4 hw4 hs hc => awake1_any (w3.heap.size + 1 + 1) B1 B2 g _ w4 ((k1.new hn3).new hw4) ((k2.new hn3).new hw4) ((hw4.block g (by omega) (fun h => h)).trans ((hn3.block g lg (fun h => h)).trans hg)) hc (by omega) (by omega) (by omega) (fun e => hown _ e rfl))).mono ?_
  rintro e w' ⟨rfl, hu, hk⟩
  exact ⟨rfl, (New.upd hn3).trans hu (fun _ _ h => h), hk⟩
/-- the second -/
theorem try2_any (w2 : World) (B1 g : Nat) (k1 : One1 w2 B1 (.func (.func 49) #[] #[.pointer (some ⟨g, 0, none⟩)])) (hg : w2.heap[g]? = some (.cells (valW x0 (.slice none 0 0)) 47)) :
    Calls Try.prog 6 #[.slice (some ⟨w2.heap.size, 0, none⟩) 3 3, .func (.func 41) #[] #[.pointer (some ⟨B1, 0, none⟩)]] (w2.alloc (.cells #[.int .u8 131, .int .u8 0, .int .u8 7] 5))
      fun e w' => e = .returned (.tuple #[.int .i64 0, .int .i64 2]) ∧ New w2 w' := by
  have hn3 : New w2 (w2.alloc (.cells #[.int .u8 131, .int .u8 0, .int .u8 7] 5)) := (Upd.refl _ _).alloc _
  have hs3 : (w2.alloc (.cells #[.int .u8 131, .int .u8 0, .int .u8 7] 5)).heap.size = w2.heap.size + 1 := by simp
  have hr := three_rd w2 131 0 7
  have l1 := k1.lt
  have lg := (Array.getElem?_eq_some_iff.1 hg).1
  have hr' : Rd (w2.alloc (.cells #[.int .u8 131, .int .u8 0, .int .u8 7] 5)) (.slice (some ⟨w2.heap.size, 0, none⟩) 3 3) bb := hr
  generalize (w2.alloc (.cells #[.int .u8 131, .int .u8 0, .int .u8 7] 5)) = w3 at *
  refine (Try_any (.slice (some ⟨w2.heap.size, 0, none⟩) 3 3) bb w3 hr' (by decide) 41 #[.pointer (some ⟨B1, 0, none⟩)] (fun _ _ => rfl)
    (fun _ => False) (fun k hk => hk.elim) (fun _ k hk e => e) (.up 0 2) (fun _ => True)
    (fun a b hu ha => trivial)
    (fun w4 hw4 hs hc => awake2_any (w3.heap.size + 1 + 1) B1 g _ w4 ((k1.new hn3).new hw4) ((hw4.block g (by omega) (fun h => h)).trans ((hn3.block g lg (fun h => h)).trans hg)) hc (by omega) (by omega))).mono ?_
  rintro e w' ⟨rfl, hu, -⟩
  exact ⟨rfl, New.trans hn3 hu⟩
theorem awake_any (w : World) : Calls Try.prog 11 #[] w (fun e w' => e = .returned (.bool true) ∧ New w w') := by
  have HW := hid (fun W => want_made x0 (.slice none 0 0) W)
  have hmf : ∀ (fn : Fn) (first cap : Array Value) (w : World), (Instr.makeFunc fn first cap).run Try.prog w = .ok (.func fn first cap) w := fun _ _ _ _ => rfl
  go_enter Try.func11, Try.ntmps11
  go_wp2_with fail
  refine (HW.out _).mono ?_
  rintro e w1 ⟨g, rfl, hn1, hgs, hgb⟩
  have HN1 := hid hn1
  have HGB := hid hgb
  have hgl := (Array.getElem?_eq_some_iff.1 hgb).1
  have hws := hn1.size
  obtain ⟨w2, hw2⟩ : ∃ w2, (w1.alloc (.cells #[.func (.func 49) #[] #[.pointer (some ⟨g, 0, none⟩)]] 65)).alloc (.cells #[.int .u32 9] 62) = w2 := ⟨_, rfl⟩
  have hn2 : New w1 w2 := by rw [← hw2]; exact ((Upd.refl _ _).alloc _).alloc _
  have hs2 : w1.heap.size + 1 + 1 = w2.heap.size := by rw [← hw2]; simp
  have k1 : One1 w2 w1.heap.size (.func (.func 49) #[] #[.pointer (some ⟨g, 0, none⟩)]) := by rw [← hw2]; exact (One1.mk rfl).push _
  have k2 : One1 w2 (w1.heap.size + 1) (.int .u32 9) := by rw [← hw2]; exact One1.mk (by simp)
  have K1 := hid k1
  have HN2 := hid hn2
  have HG2 := hid ((hn2.block g hgl (fun h => h)).trans HGB.out)
  have HT1 := hid (try1_any w2 _ _ g k1 k2 HG2.out)
  clear hn1 hgb hn2 k1 k2
  go_wp2_with fail
  refine HT1.out.mono ?_
  rintro e w3 ⟨rfl, hu3, k3⟩
  have HU3 := hid hu3
  have HK3 := hid k3
  have hs4 := hu3.size
  have hgl2 : g < w2.heap.size := by omega
  have HT2 := hid (try2_any w3 w1.heap.size g (K1.out.upd hu3 (by omega)) ((hu3.block g hgl2 (by omega)).trans HG2.out))
  clear hu3 k3
  go_wp2_with fail
  refine HT2.out.mono ?_
  rintro e w4 ⟨rfl, hu4⟩
  have HU4 := hid hu4
  have c4 := (HK3.out.new hu4).c
  clear hu4
  go_wp2_with fail
  go_ret
  refine ⟨rfl, ?_⟩
  have h1 : New w w2 := New.trans HN1.out HN2.out
  have h2 : New w w3 := Upd.trans h1 HU3.out (fun k hk e => by omega)
  exact New.trans h2 HU4.out
end Go.Proofs.Ytkfohickmdkplaa

namespace Go.Proofs.Ytkfohickmdkplaa
open Go.RowKit Go.Proofs.Leb Go.Proofs.Own Go.Proofs.Cur Go.Proofs.Span
set_option maxRecDepth 100000
set_option maxHeartbeats 40000000
theorem allO_er {bs : List UInt8} : ∀ (l : List AskM) (lim : Int) (p : Nat) {q er : Nat}, (allO bs l lim p).2 = .up q er → er ≠ 0
  | [], lim, p, q, er, h => by unfold allO at h; cases h
  | a :: t, lim, p, q, er, h => by
    by_cases h5 : a.doo % 6 = 5
    · have e : (allO bs (a :: t) lim p).2 = withinO (limO a.n lim p) (allO bs t (limO a.n lim p) p).2 := by
        show (if a.doo % 6 = 5 then _ else _ : List (List UInt8) × Out Unit).2 = _
        rw [if_pos h5]
      rw [e] at h
      cases h6 : (allO bs t (limO a.n lim p) p).2 with
      | up q' e' =>
        rw [h6] at h
        cases h
        exact allO_er t _ _ h6
      | ok z q' =>
        rw [h6] at h
        unfold withinO at h
        simp only at h
        split at h
        · cases h
        · cases h; decide
    · cases h6 : askO bs lim a p with
      | up q' e' =>
        rw [allO_up h5 h6] at h
        cases h
        exact askO_er h6
      | ok s q' =>
        rw [allO_ok h5 h6] at h
        exact allO_er t _ _ h
/-- behind both -/
structure Both (W : World) (Bo Be R : Nat) (B : ByteArray) (ux v : Value) (O : List (List UInt8) × Out Unit) : Prop where
  got : RdT W ux O.1
  cell : One1 W Bo ux
  ended : One1 W Be (.bool (okO O.2))
  want : RdT W v O.1
  rd : AnsR W R B (-1) O.2
theorem Both.new {W W' : World} {Bo Be R : Nat} {B : ByteArray} {ux v : Value} {O : List (List UInt8) × Out Unit} (h : Both W Bo Be R B ux v O) (hn : New W W') : Both W' Bo Be R B ux v O := by
  refine ⟨h.got.new hn, h.cell.new hn, h.ended.new hn, h.want.new hn, ?_⟩
  have hr := h.rd
  obtain ⟨o1, o2⟩ := O
  cases o2 with
  | ok z q => exact Rdr.new hr hn
  | up q er =>
    obtain ⟨a, b, c, d⟩ := hr
    exact ⟨a, b, c, d.new hn⟩
theorem reads_any (H : AskedAny) (bv lv : Value) (bs : List UInt8) (l : List AskM) (w : World) (hb : Rd w bv bs) (hbl : bs.length ≤ 9223372036854775807) (hl : RdE 14 EAsk w (fun _ => True) lv l) (hll : l.length ≤ 140737488355328) (hwf : ∀ a ∈ l, WfA a) :
    Calls Try.prog 3 #[bv, lv] w (fun e w' => e = .returned (.bool true) ∧ New w w') := by
  have HH := hid H
  have HB := hid hb
  have HL := hid hl
  have HWF := hid hwf
  have HLL := hid hll
  obtain ⟨ab, cb', rfl⟩ := hb.shape
  obtain ⟨al, cl, rfl⟩ := hl.shape
  have hmf : ∀ (fn : Fn) (first cap : Array Value) (w : World), (Instr.makeFunc fn first cap).run Try.prog w = .ok (.func fn first cap) w := fun _ _ _ _ => rfl
  obtain ⟨w1, hw1⟩ : ∃ w1, w.alloc (.cells #[.slice al l.length cl] 23) = w1 := ⟨_, rfl⟩
  have hn1 : New w w1 := by rw [← hw1]; exact (Upd.refl _ _).alloc _
  have K1 : Hid (One1 w1 w.heap.size (.slice al l.length cl)) := by show One1 _ _ _; rw [← hw1]; exact One1.mk rfl
  have HN1 := hid hn1
  have HF := hid (Fine_any _ l _ w1 (hl.upd EAsk.ok hn1 (fun _ _ h => h)) hwf hll)
  have hs1 : w1.heap.size = w.heap.size + 1 := by rw [← hw1]; simp
  clear H hb hl hwf hll hn1
  have z1 := K1.out.c
  by_cases h600 : bs.length ≤ 600
  · have hd6 : decide ((600 : Int) < (bs.length : Int)) = false := decide_eq_false (by omega)
    go_enter Try.func3, Try.ntmps3
    go_wp2_with fail
    refine HF.out.mono ?_
    rintro e w2 ⟨c, rfl, hn2, hc⟩
    cases c with
    | false =>
      have HN2 := hid hn2
      clear hn2 hc
      go_wp2_with fail
      go_ret
      exact ⟨rfl, New.trans HN1.out HN2.out⟩
    | true =>
      obtain ⟨hl30, hfine⟩ := hc rfl
      have HFI := hid hfine
      have HN2 := hid hn2
      have K2 := hid (K1.out.new hn2)
      have hs2 := hn2.size
      have z2 := K2.out.c
      obtain ⟨w3, hw3⟩ : ∃ w3, (w2.alloc (.cells #[.slice none 0 0] 25)).alloc (.cells #[.bool false] 4) = w3 := ⟨_, rfl⟩
      have hn3 : New w2 w3 := by rw [← hw3]; exact ((Upd.refl _ _).alloc _).alloc _
      have hs3 : w3.heap.size = w2.heap.size + 2 := by rw [← hw3]; simp
      have hg3 : One1 w3 w2.heap.size (.slice none 0 0) := by rw [← hw3]; exact (One1.mk rfl).push _
      have he3 : One1 w3 (w2.heap.size + 1) (.bool false) := by rw [← hw3]; exact One1.mk (by simp)
      have hnw2 : New w w2 := New.trans HN1.out hn2
      have hnw3 : New w w3 := New.trans hnw2 hn3
      have hbt := HB.out.there
      obtain ⟨O, hO⟩ : ∃ O, allO bs l (-1) 0 = O := ⟨_, rfl⟩
      have hin0 : Inv bs.length (-1) 0 := ⟨Nat.zero_le _, by omega, .inl rfl⟩
      have hbap : bs ≠ [] → ∀ k, (Value.slice ab bs.length cb').ownBlock = some k → ¬ (k = w2.heap.size ∨ k = w2.heap.size + 1) := fun hne k hk e => by have := hbt hne k hk; have := hnw2.size; omega
      have HT := hid (Try_any (.slice ab bs.length cb') bs w3 (HB.out.new hnw3) (by omega) 7 #[.pointer (some ⟨w.heap.size, 0, none⟩), .pointer (some ⟨w2.heap.size, 0, none⟩), .pointer (some ⟨w2.heap.size + 1, 0, none⟩)] (fun _ _ => rfl)
        (fun k => k = w2.heap.size ∨ k = w2.heap.size + 1) (fun k hk => by omega) hbap O.2
        (fun W => (∃ ux, Outs W w2.heap.size ux O.1 ∧ ∀ k, ux.ownBlock = some k → w3.heap.size + 4 ≤ k) ∧ One1 W (w2.heap.size + 1) (.bool (okO O.2)))
        (fun a b hu ha => by
          obtain ⟨⟨ux, h1, h2⟩, h3⟩ := ha
          refine ⟨⟨ux, h1.upd hu (fun k hk e => ?_), h2⟩, h3.upd hu (fun e => by omega)⟩
          rcases hk with h | h
          · omega
          · have := h2 k h; omega)
        (fun w4 hw4 hsz hcur => by
          have hn14 : New w1 w4 := New.trans (New.trans hn2 hn3) hw4
          have hnw4 : New w w4 := New.trans hnw3 hw4
          have hout : Outs w4 w2.heap.size (.slice none 0 0) [] := ⟨hg3.new hw4, Texts.nil _, fun h => by cases h⟩
          have hask := HH.out (l.length + 1) l (.slice al l.length cl) (fun k => k < w.heap.size) w4 (w3.heap.size + 1 + 1) w2.heap.size (.slice ab bs.length cb') bs (-1) 0 (.slice none 0 0) [] (Nat.lt_succ_self _) hl30
            ((RdA.of HL.out).new hnw4) (fun k hk => ⟨Nat.lt_of_lt_of_le hk hnw4.size, by
              have h5 := hnw2.size
              rintro (h | h | h)
              · omega
              · omega
              · cases h⟩) HWF.out HFI.out (by simp; omega) ⟨(by
              rintro (h | h)
              · omega
              · cases h), fun hne k hk e => by
              rcases e with h | h
              · exact hbap hne k hk (.inl h)
              · cases h⟩ hcur hin0 hout
          rw [hO] at hask
          refine (reads1_any (w3.heap.size + 1 + 1) w.heap.size w2.heap.size (w2.heap.size + 1) (.slice al l.length cl) (.slice ab bs.length cb') bs (-1) w4 O ((K1.out.new hn14)) (he3.new hw4) (by omega) (by omega) (fun hne e => hbap hne _ e (.inr rfl)) hask).mono ?_
          rintro e w5 ⟨ha, hb, ⟨ux, hc, hd⟩, he⟩
          exact ⟨ha, hb, ⟨ux, hc, fun k hk => by have := hd k hk; omega⟩, he⟩))
      have HN3 := hid hn3
      have HNW := hid hnw3
      have HO := hid hO
      have HW3 := hid hw3
      clear hn2 hc hfine hw1 hn3 hg3 he3 hnw2 hnw3 hbt hin0 hbap hO hw3
      go_wp2_with fail
      rw [HW3.out]
      refine HT.out.mono ?_
      rintro e w4 ⟨rfl, hu4, ⟨ux, ho4, hg4⟩, he4⟩
      have HU4 := hid hu4
      have HO4 := hid ho4
      have HE4 := hid he4
      have hst := (HB.out.new HNW.out).upd2 hu4 (fun hne k hk e => by have := HB.out.there hne k hk; have h6 := HNW.out.size; omega)
      have hstr := hst.str
      have HRB := hid (fun W => rNew_any ⟨bs.toArray⟩ W)
      have HK4 := hid ((K2.out.new HN3.out).upd hu4 (by omega))
      have hnw4 : New w w4 := Upd.trans HNW.out hu4 (fun k hk e => by have := HN1.out.size; omega)
      have HNW4 := hid hnw4
      have hsz4 := hu4.size
      clear hu4 ho4 he4 hst hnw4
      go_wp2_with fail
      refine (HRB.out _).mono ?_
      rintro e w5 ⟨rfl, hn5, hr5⟩
      have z5 := (HK4.out.new hn5).c
      have hnw5 := New.trans HNW4.out hn5
      have hdata : (⟨bs.toArray⟩ : ByteArray).data.toList = bs := by simp
      have HA := hid (answers_any (l.length + 1) l (.slice al l.length cl) (fun k => k < w.heap.size) w5 w4.heap.size ⟨bs.toArray⟩ (-1) 0 (Nat.lt_succ_self _) hl30 ((RdA.of HL.out).new hnw5) (fun k hk => by have h6 := HNW4.out.size; show k ≠ _; omega) HWF.out HFI.out hr5
        ⟨Nat.zero_le _, by show bs.toArray.size ≤ _; simp; omega, .inl rfl⟩)
      rw [hdata, HO.out] at HA
      have HN5 := hid hn5
      clear hn5 hr5 hnw5 hdata
      go_wp2_with fail
      refine HA.out.mono ?_
      rintro e w6 ⟨v6, rfl, ht6, hu6, -, hr6⟩
      have hB6 : Hid (Both w6 w2.heap.size (w2.heap.size + 1) w4.heap.size ⟨bs.toArray⟩ ux v6 O) := by
        have h4 := HO4.out.lt
        have h5 := HO4.out.cell.lt
        have h6 := HE4.out.lt
        exact ⟨((HO4.out.txt.new HN5.out).upd hu6 (fun k hk e => by have := h4 k hk; omega)).rd, (HO4.out.cell.new HN5.out).upd hu6 (by omega), (HE4.out.new HN5.out).upd hu6 (by omega), ht6.rd, hr6⟩
      have HNW6 : Hid (New w w6) := Upd.trans (New.trans HNW4.out HN5.out) hu6 (fun k hk e => by have := HNW4.out.size; omega)
      have HAW := hid (fun W => awake_any W)
      clear ht6 hu6 hr6
      have BW := hB6.out
      obtain ⟨a1, c1, rfl, hcl1, -, hc1⟩ := id BW.got
      obtain ⟨a2, c2, rfl, hcl2, -, hc2⟩ := id BW.want
      have HC1 := hid hc1
      have HC2 := hid hc2
      have g6 := BW.cell.c
      clear hc1 hc2
      have hlen : O.1.length ≤ 90 := by rw [← HO.out]; have := allO_len (bs := bs) l (-1) 0; omega
      obtain ⟨nn, hnn⟩ : ∃ nn, O.1.length = nn := ⟨_, rfl⟩
      have HNNN := hid hnn
      have HER := hid (fun q er (h : O.2 = .up q er) => allO_er l (-1) 0 (q := q) (er := er) (by rw [HO.out]; exact h))
      rw [hnn] at hcl1 hcl2 hlen
      simp only [hnn] at g6
      rw [hnn]
      clear hnn
      obtain ⟨o1, o2⟩ := O
      cases o2 with
      | ok z q =>
        have hrd : Rdr w6 w4.heap.size ⟨bs.toArray⟩ q (-1) 0 0 := BW.rd
        have q3 := hrd.c3
        have e6 : w6.cell? ⟨w2.heap.size + 1, 0, none⟩ = some (.bool true) := BW.ended.c
        have HRD := hid hrd
        unfold placeO errO
        simp only
        clear BW hrd
        go_wp2_with fail
        go_quiet (fail)
        go_wp2_with fail
        go_loopg [11] nn (fun k a W => ∃ i : Nat, k = nn - i ∧ a = .int .i64 i ∧ i ≤ nn ∧ New w6 W)
        case atStart => exact ⟨0, rfl, rfl, Nat.zero_le _, by first | exact Upd.refl _ _ | exact (Upd.refl _ _).drew | exact drewN_new _ _⟩
        case round =>
          obtain ⟨i, rfl, rfl, hi, hW⟩ := hrel
          have HWW := hid hW
          by_cases hlt : i < nn
          · have hio : i < o1.length := by have : o1.length = nn := HNNN.out; omega
            have hne : o1 ≠ [] := by intro e; subst e; simp at hio
            obtain ⟨b1, p1, rfl, d1⟩ := HC1.out hne
            obtain ⟨b2, p2, rfl, d2⟩ := HC2.out hne
            have x1 := hW.cell (d1 i hio) (fun h => h)
            have x2 := hW.cell (d2 i hio) (fun h => h)
            have gW := hW.cell g6 (fun h => h)
            unfold strV at x1 x2
            clear hW d1 d2 hne
            go_wp2_with fail
            go_quiet (fail)
            go_wp2_with fail
            go_roundg (nn - (i + 1))
            case measure => omega
            case rel => exact ⟨i + 1, rfl, by go_num, by omega, by first | exact HWW.out | exact HWW.out.drew | exact New.trans HWW.out (drewN_new _ _)⟩
          · obtain rfl : i = nn := by omega
            have HR7 := hid (HRD.out.new hW)
            have q3 := HR7.out.c3
            have q1 := HR7.out.c1
            clear hW
            go_wp2_with fail
            refine (HAW.out _).mono ?_
            rintro e w7 ⟨rfl, hn7⟩
            have HN7 := hid hn7
            clear hn7
            go_wp2_with fail
            go_ret
            exact ⟨rfl, New.trans (New.trans HNW6.out HWW.out) HN7.out⟩
      | up q er =>
        obtain ⟨hne0, p', lim', hrd⟩ : AnsR w6 w4.heap.size ⟨bs.toArray⟩ (-1) (.up q er) := BW.rd
        have hb0 : ((er : Int) == 0) = false := by rw [beq_eq_false_iff_ne]; omega
        have q3 := hrd.c3
        have e6 : w6.cell? ⟨w2.heap.size + 1, 0, none⟩ = some (.bool false) := BW.ended.c
        have HRD := hid hrd
        unfold placeO errO
        simp only
        clear BW hrd
        go_wp2_with fail
        go_quiet (fail)
        go_wp2_with fail
        go_loopg [11] nn (fun k a W => ∃ i : Nat, k = nn - i ∧ a = .int .i64 i ∧ i ≤ nn ∧ New w6 W)
        case atStart => exact ⟨0, rfl, rfl, Nat.zero_le _, by first | exact Upd.refl _ _ | exact (Upd.refl _ _).drew | exact drewN_new _ _⟩
        case round =>
          obtain ⟨i, rfl, rfl, hi, hW⟩ := hrel
          have HWW := hid hW
          by_cases hlt : i < nn
          · have hio : i < o1.length := by have : o1.length = nn := HNNN.out; omega
            have hne : o1 ≠ [] := by intro e; subst e; simp at hio
            obtain ⟨b1, p1, rfl, d1⟩ := HC1.out hne
            obtain ⟨b2, p2, rfl, d2⟩ := HC2.out hne
            have x1 := hW.cell (d1 i hio) (fun h => h)
            have x2 := hW.cell (d2 i hio) (fun h => h)
            have gW := hW.cell g6 (fun h => h)
            unfold strV at x1 x2
            clear hW d1 d2 hne
            go_wp2_with fail
            go_quiet (fail)
            go_wp2_with fail
            go_roundg (nn - (i + 1))
            case measure => omega
            case rel => exact ⟨i + 1, rfl, by go_num, by omega, by first | exact HWW.out | exact HWW.out.drew | exact New.trans HWW.out (drewN_new _ _)⟩
          · obtain rfl : i = nn := by omega
            have HR7 := hid (HRD.out.new hW)
            have q3 := HR7.out.c3
            have q4 := HR7.out.c4
            clear hW
            go_wp2_with fail
            refine (HAW.out _).mono ?_
            rintro e w7 ⟨rfl, hn7⟩
            have HN7 := hid hn7
            clear hn7
            go_wp2_with fail
            go_ret
            exact ⟨rfl, New.trans (New.trans HNW6.out HWW.out) HN7.out⟩
  · have hd6 : decide ((600 : Int) < (bs.length : Int)) = true := decide_eq_true (by omega)
    go_enter Try.func3, Try.ntmps3
    go_wp2_with fail
    go_ret
    exact ⟨rfl, HN1.out⟩
end Go.Proofs.Ytkfohickmdkplaa
