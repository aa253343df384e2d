/-
  The laws of the cursor: the chapter's example, tried.
-/
import Derived.Test.YtkfohickmdkplaaJ47
import Derived.Laws.EntriesVeiled
namespace Go.Proofs.Ytkfohickmdkplaa
open Go.RowKit Go.Proofs.Leb Go.Proofs.Own Go.Proofs.Cur Go.Proofs.Span
set_option maxRecDepth 100000
set_option maxHeartbeats 4000000
theorem awake1_any (C B1 B2 g : Nat) (v : Value) (w : World) (k1 : One1 w B1 (.func (.func 49) #[] #[.pointer (some ⟨g, 0, none⟩)])) (k2 : One1 w B2 (.int .u32 9))
    (kg : w.heap[g]? = some (.cells (valW x0 (.slice none 0 0)) 47)) (h : Cur w C v ba 0 (-1) 0) (n1 : B1 ≠ C) (n2 : B2 ≠ C) (n3 : g ≠ C) (n5 : v.ownBlock ≠ some B2) :
    Calls Try.prog 39 #[.pointer (some ⟨C, 0, none⟩), .pointer (some ⟨B1, 0, none⟩), .pointer (some ⟨B2, 0, none⟩)] w
      (fun e w2 => Upd (fun k => k = C ∨ k = B2) w w2 ∧ Did C v ba (-1) (.ok () 3) w2 e ∧ One1 w2 B2 (.int .u32 1)) := by
  have hC := h.lt
  have h2 := k2.lt
  have hn : New w (w.alloc (.cells #[.pointer (some ⟨C, 0, none⟩)] 29)) := (Upd.refl _ _).alloc _
  have hl : limO 3 (-1) 0 = 3 := by decide
  have kc : One1 (w.alloc (.cells #[.pointer (some ⟨C, 0, none⟩)] 29)) w.heap.size (.pointer (some ⟨C, 0, none⟩)) := One1.mk rfl
  have hgl := (Array.getElem?_eq_some_iff.1 kg).1
  have HWI := hid (Within_any (h.new hn) ⟨by decide, by decide, .inl rfl⟩ 3 (by decide) (by decide) 40 #[.pointer (some ⟨w.heap.size, 0, none⟩), .pointer (some ⟨B1, 0, none⟩), .pointer (some ⟨B2, 0, none⟩)] (fun _ _ => rfl)
    (· = B2) (fun k hk => by have := hn.size; omega) (.ok () 3) (fun W => One1 W B2 (.int .u32 1)) (fun a b hu ha => ha.upd hu n2) (fun q hq => by rw [hl]; cases hq; exact ⟨by decide, by decide, by decide⟩)
    (fun w1 hu hc => by
      rw [hl] at hc ⊢
      exact awake11_any C w.heap.size B1 B2 g v w1 (kc.upd hu (by omega)) ((k1.new hn).upd hu n1) ((k2.new hn).upd hu n2) ((hu.block g (by have := hn.size; omega) n3).trans ((hn.block g hgl (fun h => h)).trans kg)) hc (by omega) n2 n3 (by omega) n5))
  have hw3 : withinO 3 (.ok () 3) = .ok () 3 := by
    show (if rest 3 3 = 0 then Out.ok () 3 else Out.up 3 2) = _
    rw [if_pos (by decide)]
  rw [hl, hw3] at HWI
  have hmf : ∀ (fn : Fn) (first cap : Array Value) (w : World), (Instr.makeFunc fn first cap).run Try.prog w = .ok (.func fn first cap) w := fun _ _ _ _ => rfl
  have z0 := kc.c
  have HN := hid hn
  clear k1 k2 h hn kc
  go_enter Try.func39, Try.ntmps39
  go_wp2_with fail
  refine HWI.out.mono ?_
  rintro e w1 ⟨hu1, hd1, k1⟩
  have HD := hid hd1
  have U1 := hid ((New.upd HN.out).trans hu1 (fun _ _ h => h))
  have K1 := hid k1
  obtain ⟨rfl, -⟩ := hd1
  clear hu1 k1
  go_wp2_with fail
  go_end0
  exact ⟨U1.out, HD.out, K1.out⟩
theorem awake2_any (C B1 g : Nat) (v : Value) (w : World) (k1 : One1 w B1 (.func (.func 49) #[] #[.pointer (some ⟨g, 0, none⟩)]))
    (kg : w.heap[g]? = some (.cells (valW x0 (.slice none 0 0)) 47)) (h : Cur w C v bb 0 (-1) 0) (n1 : B1 ≠ C) (n3 : g ≠ C) :
    Calls Try.prog 41 #[.pointer (some ⟨C, 0, none⟩), .pointer (some ⟨B1, 0, none⟩)] w
      (fun e w2 => Upd (fun k => k = C ∨ False) w w2 ∧ Did C v bb (-1) (.up 0 2) w2 e ∧ True) := by
  have hC := h.lt
  have hn : New w (w.alloc (.cells #[.pointer (some ⟨C, 0, none⟩)] 29)) := (Upd.refl _ _).alloc _
  have hl : limO 3 (-1) 0 = 3 := by decide
  have kc : One1 (w.alloc (.cells #[.pointer (some ⟨C, 0, none⟩)] 29)) w.heap.size (.pointer (some ⟨C, 0, none⟩)) := One1.mk rfl
  have hgl := (Array.getElem?_eq_some_iff.1 kg).1
  have HWI := hid (Within_any (h.new hn) ⟨by decide, by decide, .inl rfl⟩ 3 (by decide) (by decide) 42 #[.pointer (some ⟨w.heap.size, 0, none⟩), .pointer (some ⟨B1, 0, none⟩)] (fun _ _ => rfl)
    (fun _ => False) (fun k hk => hk.elim) (.up 0 2) (fun _ => True) (fun a b hu ha => trivial) (fun q hq => by cases hq)
    (fun w1 hu hc => by
      rw [hl] at hc ⊢
      exact awake21_any C w.heap.size B1 g v w1 (kc.upd hu (by omega)) ((k1.new hn).upd hu n1) ((hu.block g (by have := hn.size; omega) n3).trans ((hn.block g hgl (fun h => h)).trans kg)) hc n3))
  rw [hl, show withinO 3 (.up 0 2) = .up 0 2 from rfl] at HWI
  have hmf : ∀ (fn : Fn) (first cap : Array Value) (w : World), (Instr.makeFunc fn first cap).run Try.prog w = .ok (.func fn first cap) w := fun _ _ _ _ => rfl
  have z0 := kc.c
  have HN := hid hn
  clear k1 h hn kc
  go_enter Try.func41, Try.ntmps41
  go_wp2_with fail
  refine HWI.out.mono ?_
  rintro e w1 ⟨hu1, hd1, -⟩
  have HD := hid hd1
  have U1 := hid ((New.upd HN.out).trans hu1 (fun _ _ h => h))
  obtain ⟨rfl, -⟩ := hd1
  clear hu1
  go_wp2_with fail
  exact ⟨rfl, U1.out, HD.out, trivial⟩
/-- three bytes in a row of their own -/
theorem three_rd (w : World) (x y z : UInt8) : Rd (w.alloc (.cells #[.int .u8 x.toNat, .int .u8 y.toNat, .int .u8 z.toNat] 5)) (.slice (some ⟨w.heap.size, 0, none⟩) 3 3) [x, y, z] := by
  refine ⟨_, 3, rfl, Nat.le_refl 3, (fun h => by cases h), fun _ => ⟨_, 0, rfl, fun i hi => ?_⟩⟩
  have h : (w.alloc (.cells #[.int .u8 x.toNat, .int .u8 y.toNat, .int .u8 z.toNat] 5)).heap[w.heap.size]? = some (.cells #[.int .u8 x.toNat, .int .u8 y.toNat, .int .u8 z.toNat] 5) := hp_new rfl
  rw [cell_of_row _ _ (0 + i) _ _ (0, 0) h]
  match i, hi with
  | 0, _ => rfl
  | 1, _ => rfl
  | 2, _ => rfl
/-- the first try -/
theorem try1_any (w2 : World) (B1 B2 g : Nat) (k1 : One1 w2 B1 (.func (.func 49) #[] #[.pointer (some ⟨g, 0, none⟩)])) (k2 : One1 w2 B2 (.int .u32 9)) (hg : w2.heap[g]? = some (.cells (valW x0 (.slice none 0 0)) 47)) :
    Calls Try.prog 6 #[.slice (some ⟨w2.heap.size, 0, none⟩) 3 3, .func (.func 39) #[] #[.pointer (some ⟨B1, 0, none⟩), .pointer (some ⟨B2, 0, none⟩)]] (w2.alloc (.cells #[.int .u8 129, .int .u8 0, .int .u8 7] 5))
      fun e w' => e = .returned (.tuple #[.int .i64 3, .int .i64 0]) ∧ Upd (· = B2) w2 w' ∧ One1 w' B2 (.int .u32 1) := by
  have hn3 : New w2 (w2.alloc (.cells #[.int .u8 129, .int .u8 0, .int .u8 7] 5)) := (Upd.refl _ _).alloc _
  have hs3 : (w2.alloc (.cells #[.int .u8 129, .int .u8 0, .int .u8 7] 5)).heap.size = w2.heap.size + 1 := by simp
  have hr := three_rd w2 129 0 7
  have l1 := k1.lt
  have l2 := k2.lt
  have lg := (Array.getElem?_eq_some_iff.1 hg).1
  have hr' : Rd (w2.alloc (.cells #[.int .u8 129, .int .u8 0, .int .u8 7] 5)) (.slice (some ⟨w2.heap.size, 0, none⟩) 3 3) ba := hr
  generalize (w2.alloc (.cells #[.int .u8 129, .int .u8 0, .int .u8 7] 5)) = w3 at *
  have hown : ∀ k, (Value.slice (some ⟨w2.heap.size, 0, none⟩) 3 3).ownBlock = some k → k ≠ B2 := fun k hk => by
    have h1 : w2.heap.size = k := Option.some.inj hk
    omega
  refine (Try_any (.slice (some ⟨w2.heap.size, 0, none⟩) 3 3) ba w3 hr' (by decide) 39 #[.pointer (some ⟨B1, 0, none⟩), .pointer (some ⟨B2, 0, none⟩)] (fun _ _ => rfl)
    (· = B2) (fun k hk => by omega) (fun _ k hk e => hown k hk e) (.ok () 3) (fun W => One1 W B2 (.int .u32 1))
    (fun a b hu ha => ha.upd hu (fun h => by omega))
    (fun w4 hw4 hs hc => awake1_any (w3.heap.size + 1 + 1) B1 B2 g _ w4 ((k1.new hn3).new hw4) ((k2.new hn3).new hw4) ((hw4.block g (by omega) (fun h => h)).trans ((hn3.block g lg (fun h => h)).trans hg)) hc (by omega) (by omega) (by omega) (fun e => hown _ e rfl))).mono ?_
  rintro e w' ⟨rfl, hu, hk⟩
  exact ⟨rfl, (New.upd hn3).trans hu (fun _ _ h => h), hk⟩
/-- the second -/
theorem try2_any (w2 : World) (B1 g : Nat) (k1 : One1 w2 B1 (.func (.func 49) #[] #[.pointer (some ⟨g, 0, none⟩)])) (hg : w2.heap[g]? = some (.cells (valW x0 (.slice none 0 0)) 47)) :
    Calls Try.prog 6 #[.slice (some ⟨w2.heap.size, 0, none⟩) 3 3, .func (.func 41) #[] #[.pointer (some ⟨B1, 0, none⟩)]] (w2.alloc (.cells #[.int .u8 131, .int .u8 0, .int .u8 7] 5))
      fun e w' => e = .returned (.tuple #[.int .i64 0, .int .i64 2]) ∧ New w2 w' := by
  have hn3 : New w2 (w2.alloc (.cells #[.int .u8 131, .int .u8 0, .int .u8 7] 5)) := (Upd.refl _ _).alloc _
  have hs3 : (w2.alloc (.cells #[.int .u8 131, .int .u8 0, .int .u8 7] 5)).heap.size = w2.heap.size + 1 := by simp
  have hr := three_rd w2 131 0 7
  have l1 := k1.lt
  have lg := (Array.getElem?_eq_some_iff.1 hg).1
  have hr' : Rd (w2.alloc (.cells #[.int .u8 131, .int .u8 0, .int .u8 7] 5)) (.slice (some ⟨w2.heap.size, 0, none⟩) 3 3) bb := hr
  generalize (w2.alloc (.cells #[.int .u8 131, .int .u8 0, .int .u8 7] 5)) = w3 at *
  refine (Try_any (.slice (some ⟨w2.heap.size, 0, none⟩) 3 3) bb w3 hr' (by decide) 41 #[.pointer (some ⟨B1, 0, none⟩)] (fun _ _ => rfl)
    (fun _ => False) (fun k hk => hk.elim) (fun _ k hk e => e) (.up 0 2) (fun _ => True)
    (fun a b hu ha => trivial)
    (fun w4 hw4 hs hc => awake2_any (w3.heap.size + 1 + 1) B1 g _ w4 ((k1.new hn3).new hw4) ((hw4.block g (by omega) (fun h => h)).trans ((hn3.block g lg (fun h => h)).trans hg)) hc (by omega) (by omega))).mono ?_
  rintro e w' ⟨rfl, hu, -⟩
  exact ⟨rfl, New.trans hn3 hu⟩
theorem awake_any (w : World) : Calls Try.prog 11 #[] w (fun e w' => e = .returned (.bool true) ∧ New w w') := by
  have HW := hid (fun W => want_made x0 (.slice none 0 0) W)
  have hmf : ∀ (fn : Fn) (first cap : Array Value) (w : World), (Instr.makeFunc fn first cap).run Try.prog w = .ok (.func fn first cap) w := fun _ _ _ _ => rfl
  go_enter Try.func11, Try.ntmps11
  go_wp2_with fail
  refine (HW.out _).mono ?_
  rintro e w1 ⟨g, rfl, hn1, hgs, hgb⟩
  have HN1 := hid hn1
  have HGB := hid hgb
  have hgl := (Array.getElem?_eq_some_iff.1 hgb).1
  have hws := hn1.size
  obtain ⟨w2, hw2⟩ : ∃ w2, (w1.alloc (.cells #[.func (.func 49) #[] #[.pointer (some ⟨g, 0, none⟩)]] 65)).alloc (.cells #[.int .u32 9] 62) = w2 := ⟨_, rfl⟩
  have hn2 : New w1 w2 := by rw [← hw2]; exact ((Upd.refl _ _).alloc _).alloc _
  have hs2 : w1.heap.size + 1 + 1 = w2.heap.size := by rw [← hw2]; simp
  have k1 : One1 w2 w1.heap.size (.func (.func 49) #[] #[.pointer (some ⟨g, 0, none⟩)]) := by rw [← hw2]; exact (One1.mk rfl).push _
  have k2 : One1 w2 (w1.heap.size + 1) (.int .u32 9) := by rw [← hw2]; exact One1.mk (by simp)
  have K1 := hid k1
  have HN2 := hid hn2
  have HG2 := hid ((hn2.block g hgl (fun h => h)).trans HGB.out)
  have HT1 := hid (try1_any w2 _ _ g k1 k2 HG2.out)
  clear hn1 hgb hn2 k1 k2
  go_wp2_with fail
  refine HT1.out.mono ?_
  rintro e w3 ⟨rfl, hu3, k3⟩
  have HU3 := hid hu3
  have HK3 := hid k3
  have hs4 := hu3.size
  have hgl2 : g < w2.heap.size := by omega
  have HT2 := hid (try2_any w3 w1.heap.size g (K1.out.upd hu3 (by omega)) ((hu3.block g hgl2 (by omega)).trans HG2.out))
  clear hu3 k3
  go_wp2_with fail
  refine HT2.out.mono ?_
  rintro e w4 ⟨rfl, hu4⟩
  have HU4 := hid hu4
  have c4 := (HK3.out.new hu4).c
  clear hu4
  go_wp2_with fail
  go_ret
  refine ⟨rfl, ?_⟩
  have h1 : New w w2 := New.trans HN1.out HN2.out
  have h2 : New w w3 := Upd.trans h1 HU3.out (fun k hk e => by omega)
  exact New.trans h2 HU4.out
end Go.Proofs.Ytkfohickmdkplaa
