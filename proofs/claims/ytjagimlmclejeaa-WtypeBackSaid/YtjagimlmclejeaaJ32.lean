/-
  The laws of types: the chapter's example.
-/
import Derived.Test.YtjagimlmclejeaaJ31
import Derived.Test.YtjagimlmclejeaaJ11
namespace Go.Proofs.Ytjagimlmclejeaa
open Go.RowKit Go.Proofs.Leb Go.Proofs.Own Go.Proofs.Cur
set_option maxRecDepth 100000
set_option maxHeartbeats 4000000

def wa : List UInt8 := [1, 1, 0x82, 0]
def wb : List UInt8 := [1, 0x81, 0x82, 0]
theorem limits_wa : limitsO wa 4 (0, 0) 0 = .ok (true, 1, 2) 4 := by
  unfold limitsO
  rw [byteO_here (x := 1) (b := [1, 0x82, 0]) ⟨[], rfl⟩ (by decide) (.inr ⟨rfl, by show Span.has _ _ _ = true; decide⟩)]
  simp only [Out.bind]
  rw [if_pos trivial]
  have e1 : numI wa 4 (idxS (andS (1, 5) (0, 0))) 1 = .ok 1 2 := numI_mk (ds := [1]) ⟨[], 1, rfl, by decide, by simp⟩ (by decide) rfl (by decide) ⟨[0x82, 0], rfl⟩ (by unfold Far; simp) (by show Span.has _ _ _ = true; decide)
  rw [e1]
  simp only
  have e2 : numI wa 4 (idxS (0, 0)) 2 = .ok 2 4 := numI_mk (ds := [0x82, 0]) ⟨[0x82], 0, rfl, by decide, by simp⟩ (by decide) rfl (by decide) ⟨[], rfl⟩ (by unfold Far; simp) (by show Span.has _ _ _ = true; decide)
  rw [e2]
theorem limits_wb : limitsO wb 4 (0, 0) 0 = .up 2 2 := by
  unfold limitsO
  rw [byteO_here (x := 1) (b := [0x81, 0x82, 0]) ⟨[], rfl⟩ (by decide) (.inr ⟨rfl, by show Span.has _ _ _ = true; decide⟩)]
  simp only [Out.bind]
  rw [if_pos trivial]
  have e1 : numI wb 4 (idxS (andS (1, 5) (0, 0))) 1 = .up 2 2 := by
    have m0 : mayU (idxS (andS (1, 5) (0, 0))) [] 0x81 2 := by
      unfold mayU comes
      rw [if_neg (by decide)]
      exact ⟨1, by decide, by decide, by decide, 1, by show Span.has _ _ _ = true; decide, by decide, by decide, by decide⟩
    have m1 : ¬ mayU (idxS (andS (1, 5) (0, 0))) [0x81] 0x82 1 := by
      unfold mayU comes
      rw [if_neg (by decide)]
      rintro ⟨j, h1, h2, h3, n, h4, -⟩
      have : j = 1 := by simp at h2; omega
      subst this
      have h5 : Span.has 1 5 0 = true := h4
      exact absurd h5 (by decide)
    have b0 : byteO wb 4 (mayU (idxS (andS (1, 5) (0, 0))) []) 1 = .ok 0x81 2 := byteO_here (b := [0x82, 0]) ⟨[], rfl⟩ (by decide) m0
    have b1 : byteO wb 4 (mayU (idxS (andS (1, 5) (0, 0))) [0x81]) 2 = .up 2 2 := byteO_not (b := [0]) ⟨[], rfl⟩ (by decide) m1
    unfold numI uintO
    have s0 : numO wb 4 (mayU (idxS (andS (1, 5) (0, 0)))) 5 [] 1 = (byteO wb 4 (mayU (idxS (andS (1, 5) (0, 0))) []) 1).bind fun x q => if x.toNat < 128 then .ok ([] ++ [x]) q else numO wb 4 (mayU (idxS (andS (1, 5) (0, 0)))) 4 ([] ++ [x]) q := rfl
    have s1 : numO wb 4 (mayU (idxS (andS (1, 5) (0, 0)))) 4 [0x81] 2 = (byteO wb 4 (mayU (idxS (andS (1, 5) (0, 0))) [0x81]) 2).bind fun x q => if x.toNat < 128 then .ok ([0x81] ++ [x]) q else numO wb 4 (mayU (idxS (andS (1, 5) (0, 0)))) 3 ([0x81] ++ [x]) q := rfl
    rw [s0, b0]
    simp only [Out.bind]
    rw [if_neg (by decide), List.nil_append, s1, b1]
    rfl
  rw [e1]

/-- what is done with a cursor, told apart from what it answers -/
theorem got_did {α : Type} {C : Nat} {v : Value} {bs : List UInt8} {lim : Int} {V : α → Value} {o : Out α} {w : World} {e : Ending} {w' : World} (h : Got C v bs lim V o w e w') : Upd (· = C) w w' ∧ (∀ a q, o = .ok a q → e = .returned (V a)) ∧ Cur w' C v bs (placeO (o.bind fun _ q => .ok () q)) lim (errO (o.bind fun _ q => .ok () q)) ∧
    (∀ q er, o = .up q er → e = .panicked [{ v := gave C, recovered := false }]) := by
  obtain ⟨hu, hm⟩ := h
  cases o with
  | ok a q => exact ⟨hu, fun a' q' h => by cases h; exact hm.1, hm.2, fun _ _ h => by cases h⟩
  | up q er => exact ⟨hu, (fun _ _ h => by cases h), hm.2, fun _ _ h => by cases h; exact hm.1⟩
theorem four_rd (w : World) (x y z t : UInt8) : Rd (w.alloc (.cells #[.int .u8 x.toNat, .int .u8 y.toNat, .int .u8 z.toNat, .int .u8 t.toNat] 5)) (.slice (some ⟨w.heap.size, 0, none⟩) 4 4) [x, y, z, t] := Rd.lit w [x, y, z, t] 5

theorem aw11_any (C Bc Bg : Nat) (v : Value) (old : Array Value) (w : World) (hc : One1 w Bc (.pointer (some ⟨C, 0, none⟩))) (hg : w.heap[Bg]? = some (.cells old 37)) (hold : old.size = 3) (h : Cur w C v wa 0 4 0) (n2 : Bg ≠ C) (n3 : v.ownBlock ≠ some Bg) :
    Calls Try.prog 47 #[.pointer (some ⟨Bc, 0, none⟩), .pointer (some ⟨Bg, 0, none⟩)] w
      (fun e w2 => Upd (fun k => k = C ∨ k = Bg) w w2 ∧ Did C v wa 4 (.ok () 4) w2 e ∧ w2.heap[Bg]? = some (.cells #[.bool true, .int .u32 1, .int .u32 2] 37)) := by
  have HL := hid (readLimits_any h ⟨by decide, by decide, by decide⟩ (0, 0) (by decide) (by decide) (by decide))
  rw [limits_wa] at HL
  have z0 := hc.c
  have H := hid hg
  have H0 := hid h
  clear hc h hg
  go_enter Try.func47, Try.ntmps47
  go_wp2_with fail
  refine HL.out.mono ?_
  rintro e w1 ⟨hu, rfl, hc⟩
  have H1 := hid ((hu.block Bg (Array.getElem?_eq_some_iff.1 H.out).1 n2).trans H.out)
  have HC := hid hc
  have HU := hid hu
  clear hu hc z0
  unfold LimV
  simp only
  go_wp2_with (refine wpList_store_row rfl 37 _ _ rfl Bg #[.bool true, .int .u32 ((1 : Nat) : Int), .int .u32 ((2 : Nat) : Int)] rfl rfl 37 _ H1.out infoLm3 hold (by simp [Value.oneCell']) ?_)
  obtain ⟨hus, hbs⟩ := run_setRow (cs := #[.bool true, .int .u32 ((1 : Nat) : Int), .int .u32 ((2 : Nat) : Int)]) H1.out
  have HUS := hid hus
  have HBS := hid hbs
  clear hus hbs
  go_wp2_with fail
  go_end0
  exact ⟨(HU.out.mono (T := fun k => k = C ∨ k = Bg) (fun k _ h => .inl h)).trans HUS.out (fun k _ h => .inr h), ⟨rfl, HC.out.upd HUS.out (fun e => n2 e.symm) (fun hb k hk e => n3 (by rw [← e]; exact hk))⟩, HBS.out⟩
theorem aw21_any (C Bc : Nat) (v : Value) (w : World) (hc : One1 w Bc (.pointer (some ⟨C, 0, none⟩))) (h : Cur w C v wb 0 4 0) :
    Calls Try.prog 50 #[.pointer (some ⟨Bc, 0, none⟩)] w
      (fun e w2 => Upd (fun k => k = C ∨ False) w w2 ∧ Did C v wb 4 (.up 2 2) w2 e ∧ True) := by
  have HL := hid (readLimits_any h ⟨by decide, by decide, by decide⟩ (0, 0) (by decide) (by decide) (by decide))
  rw [limits_wb] at HL
  have z0 := hc.c
  clear hc h
  go_enter Try.func50, Try.ntmps50
  go_wp2_with fail
  refine HL.out.mono ?_
  rintro e w1 ⟨hu, rfl, hc⟩
  have HC := hid hc
  have HU := hid hu
  clear hu hc z0
  go_wp2_with fail
  exact ⟨rfl, HU.out.mono (fun k _ h => .inl h), ⟨rfl, HC.out⟩, trivial⟩
theorem aw1_any (C Bg : Nat) (v : Value) (old : Array Value) (w : World) (hg : w.heap[Bg]? = some (.cells old 37)) (hold : old.size = 3) (h : Cur w C v wa 0 (-1) 0) (n2 : Bg ≠ C) (n3 : v.ownBlock ≠ some Bg) :
    Calls Try.prog 46 #[.pointer (some ⟨C, 0, none⟩), .pointer (some ⟨Bg, 0, none⟩)] w
      (fun e w2 => Upd (fun k => k = C ∨ k = Bg) w w2 ∧ Did C v wa (-1) (.ok () 4) w2 e ∧ w2.heap[Bg]? = some (.cells #[.bool true, .int .u32 1, .int .u32 2] 37)) := by
  have hC := h.lt
  have hgl := (Array.getElem?_eq_some_iff.1 hg).1
  have hn : New w (w.alloc (.cells #[.pointer (some ⟨C, 0, none⟩)] 62)) := (Upd.refl _ _).alloc _
  have hl : limO 4 (-1) 0 = 4 := by decide
  have kc : One1 (w.alloc (.cells #[.pointer (some ⟨C, 0, none⟩)] 62)) w.heap.size (.pointer (some ⟨C, 0, none⟩)) := One1.mk rfl
  have HWI := hid (Within_any (h.new hn) ⟨by decide, by decide, .inl rfl⟩ 4 (by decide) (by decide) 47 #[.pointer (some ⟨w.heap.size, 0, none⟩), .pointer (some ⟨Bg, 0, none⟩)] (fun _ _ => rfl)
    (· = Bg) (fun k hk => by have := hn.size; omega) (.ok () 4) (fun W => W.heap[Bg]? = some (.cells #[.bool true, .int .u32 1, .int .u32 2] 37)) (fun a b hu ha => (hu.block Bg (Array.getElem?_eq_some_iff.1 ha).1 n2).trans ha) (fun q hq => by rw [hl]; cases hq; exact ⟨by decide, by decide, by decide⟩)
    (fun w1 hu hc => by
      rw [hl] at hc ⊢
      exact aw11_any C w.heap.size Bg v old w1 (kc.upd hu (by omega)) ((hu.block Bg (by have := hn.size; omega) n2).trans (hp1 hg hn)) hold hc n2 n3))
  have hw3 : withinO 4 (.ok () 4) = .ok () 4 := by
    show (if rest 4 4 = 0 then Out.ok () 4 else Out.up 4 2) = _
    rw [if_pos (by decide)]
  rw [hl, hw3] at HWI
  have hmf : ∀ (fn : Fn) (first cap : Array Value) (w : World), (Instr.makeFunc fn first cap).run Try.prog w = .ok (.func fn first cap) w := fun _ _ _ _ => rfl
  have z0 := kc.c
  have HN := hid hn
  clear h hn kc hg
  go_enter Try.func46, Try.ntmps46
  go_wp2_with fail
  refine HWI.out.mono ?_
  rintro e w1 ⟨hu1, hd1, k1⟩
  have HD := hid hd1
  have U1 := hid ((New.upd HN.out).trans hu1 (fun _ _ h => h))
  have K1 := hid k1
  obtain ⟨rfl, -⟩ := hd1
  clear hu1 k1
  go_wp2_with fail
  go_end0
  exact ⟨U1.out, HD.out, K1.out⟩
theorem aw2_any (C : Nat) (v : Value) (w : World) (h : Cur w C v wb 0 (-1) 0) :
    Calls Try.prog 49 (#[.pointer (some ⟨C, 0, none⟩)] ++ #[]) w
      (fun e w2 => Upd (fun k => k = C ∨ False) w w2 ∧ Did C v wb (-1) (.up 2 2) w2 e ∧ True) := by
  have hC := h.lt
  have hn : New w (w.alloc (.cells #[.pointer (some ⟨C, 0, none⟩)] 62)) := (Upd.refl _ _).alloc _
  have hl : limO 4 (-1) 0 = 4 := by decide
  have kc : One1 (w.alloc (.cells #[.pointer (some ⟨C, 0, none⟩)] 62)) w.heap.size (.pointer (some ⟨C, 0, none⟩)) := One1.mk rfl
  have HWI := hid (Within_any (h.new hn) ⟨by decide, by decide, .inl rfl⟩ 4 (by decide) (by decide) 50 #[.pointer (some ⟨w.heap.size, 0, none⟩)] (fun _ _ => rfl)
    (fun _ => False) (fun k hk => hk.elim) (.up 2 2) (fun _ => True) (fun a b hu ha => trivial) (fun q hq => by cases hq)
    (fun w1 hu hc => by
      rw [hl] at hc ⊢
      exact aw21_any C w.heap.size v w1 (kc.upd hu (by omega)) hc))
  rw [hl, show withinO 4 (.up 2 2) = .up 2 2 from rfl] at HWI
  have hmf : ∀ (fn : Fn) (first cap : Array Value) (w : World), (Instr.makeFunc fn first cap).run Try.prog w = .ok (.func fn first cap) w := fun _ _ _ _ => rfl
  have z0 := kc.c
  have HN := hid hn
  clear h hn kc
  show Calls Try.prog 49 #[.pointer (some ⟨C, 0, none⟩)] w _
  go_enter Try.func49, Try.ntmps49
  go_wp2_with fail
  refine HWI.out.mono ?_
  rintro e w1 ⟨hu1, hd1, -⟩
  have HD := hid hd1
  have U1 := hid ((New.upd HN.out).trans hu1 (fun _ _ h => h))
  obtain ⟨rfl, -⟩ := hd1
  clear hu1
  go_wp2_with fail
  exact ⟨rfl, U1.out, HD.out, trivial⟩
/-- the first try -/
theorem awt1_any (w2 : World) (Bg : Nat) (old : Array Value) (hold : old.size = 3) (hg : w2.heap[Bg]? = some (.cells old 37)) :
    Calls Try.prog 30 #[.slice (some ⟨w2.heap.size, 0, none⟩) 4 4, .func (.func 46) #[] #[.pointer (some ⟨Bg, 0, none⟩)]] (w2.alloc (.cells #[.int .u8 1, .int .u8 1, .int .u8 130, .int .u8 0] 5))
      fun e w' => e = .returned (.tuple #[.int .i64 4, .int .i64 0]) ∧ Upd (· = Bg) w2 w' ∧ w'.heap[Bg]? = some (.cells #[.bool true, .int .u32 1, .int .u32 2] 37) := by
  have hn3 : New w2 (w2.alloc (.cells #[.int .u8 1, .int .u8 1, .int .u8 130, .int .u8 0] 5)) := (Upd.refl _ _).alloc _
  have hs3 : (w2.alloc (.cells #[.int .u8 1, .int .u8 1, .int .u8 130, .int .u8 0] 5)).heap.size = w2.heap.size + 1 := by simp
  have hr := four_rd w2 1 1 130 0
  have lg := (Array.getElem?_eq_some_iff.1 hg).1
  have hr' : Rd (w2.alloc (.cells #[.int .u8 1, .int .u8 1, .int .u8 130, .int .u8 0] 5)) (.slice (some ⟨w2.heap.size, 0, none⟩) 4 4) wa := hr
  generalize (w2.alloc (.cells #[.int .u8 1, .int .u8 1, .int .u8 130, .int .u8 0] 5)) = w3 at *
  have hown : ∀ k, (Value.slice (some ⟨w2.heap.size, 0, none⟩) 4 4).ownBlock = some k → k ≠ Bg := fun k hk => by
    have h1 : w2.heap.size = k := Option.some.inj hk
    omega
  refine (Try_any (.slice (some ⟨w2.heap.size, 0, none⟩) 4 4) wa w3 hr' (by decide) 46 #[.pointer (some ⟨Bg, 0, none⟩)] (fun _ _ => rfl)
    (· = Bg) (fun k hk => by omega) (fun _ k hk e => hown k hk e) (.ok () 4) (fun W => W.heap[Bg]? = some (.cells #[.bool true, .int .u32 1, .int .u32 2] 37))
    (fun a b hu ha => (hu.block Bg (Array.getElem?_eq_some_iff.1 ha).1 (by omega)).trans ha)
    (fun w4 hw4 hs hc => aw1_any (w3.heap.size + 1 + 1) Bg _ old w4 (hp1 (hp1 hg hn3) hw4) hold hc (by omega) (fun e => hown _ e rfl))).mono ?_
  rintro e w' ⟨rfl, hu, hk⟩
  exact ⟨rfl, (New.upd hn3).trans hu (fun _ _ h => h), hk⟩
/-- the second -/
theorem awt2_any (w2 : World) :
    Calls Try.prog 30 #[.slice (some ⟨w2.heap.size, 0, none⟩) 4 4, .func (.func 49) #[] #[]] (w2.alloc (.cells #[.int .u8 1, .int .u8 129, .int .u8 130, .int .u8 0] 5))
      fun e w' => e = .returned (.tuple #[.int .i64 2, .int .i64 2]) ∧ New w2 w' := by
  have hn3 : New w2 (w2.alloc (.cells #[.int .u8 1, .int .u8 129, .int .u8 130, .int .u8 0] 5)) := (Upd.refl _ _).alloc _
  have hr := four_rd w2 1 129 130 0
  have hr' : Rd (w2.alloc (.cells #[.int .u8 1, .int .u8 129, .int .u8 130, .int .u8 0] 5)) (.slice (some ⟨w2.heap.size, 0, none⟩) 4 4) wb := hr
  generalize (w2.alloc (.cells #[.int .u8 1, .int .u8 129, .int .u8 130, .int .u8 0] 5)) = w3 at *
  refine (Try_any (.slice (some ⟨w2.heap.size, 0, none⟩) 4 4) wb w3 hr' (by decide) 49 #[] (fun _ _ => rfl)
    (fun _ => False) (fun k hk => hk.elim) (fun _ k hk e => e) (.up 2 2) (fun _ => True)
    (fun a b hu ha => trivial)
    (fun w4 hw4 hs hc => aw2_any (w3.heap.size + 1 + 1) _ w4 hc)).mono ?_
  rintro e w' ⟨rfl, hu, -⟩
  exact ⟨rfl, New.trans hn3 hu⟩
theorem lmB_12 : ([] ++ lmB true 1 2 0 : List UInt8) = [1, 1, 2] := by
  unfold lmB bitB
  rw [numV_zero (by decide), numV_zero (by decide), encU_last 1 (by decide), encU_last 2 (by decide)]
  rfl
theorem awake05_any (w : World) : Calls Try.prog 29 #[] w (fun e w' => e = .returned (.bool true) ∧ New w w') := by
  have HT1 := hid (fun W g (old : Array Value) (h1 : old.size = 3) (h2 : W.heap[g]? = some (.cells old 37)) => awt1_any W g old h1 h2)
  have HT2 := hid (fun W => awt2_any W)
  have HP := hid (fun W => lmPut_any true 1 2 (.slice none 0 0) [] W (Bytes.nil W) (by simp) (by decide) (by decide))
  have hmf : ∀ (fn : Fn) (first cap : Array Value) (w : World), (Instr.makeFunc fn first cap).run Try.prog w = .ok (.func fn first cap) w := fun _ _ _ _ => rfl
  have k0 : ((w.alloc (.cells #[.bool true, .int .u32 1, .int .u32 2] 37)).alloc (.cells #[.bool false, .int .u32 0, .int .u32 0] 37)).heap[w.heap.size]? = some (.cells #[.bool true, .int .u32 1, .int .u32 2] 37) := hp_old (by simp) (hp_new rfl)
  have k1 : ((w.alloc (.cells #[.bool true, .int .u32 1, .int .u32 2] 37)).alloc (.cells #[.bool false, .int .u32 0, .int .u32 0] 37)).heap[w.heap.size + 1]? = some (.cells #[.bool false, .int .u32 0, .int .u32 0] 37) := hp_new (by simp)
  have hN : New w ((w.alloc (.cells #[.bool true, .int .u32 1, .int .u32 2] 37)).alloc (.cells #[.bool false, .int .u32 0, .int .u32 0] 37)) := ((Upd.refl _ _).alloc _).alloc _
  have hsz : ((w.alloc (.cells #[.bool true, .int .u32 1, .int .u32 2] 37)).alloc (.cells #[.bool false, .int .u32 0, .int .u32 0] 37)).heap.size = w.heap.size + 1 + 1 := by simp
  have HK0 := hid k0
  have HK1 := hid k1
  have HN := hid hN
  have HSZ := hid hsz
  clear k0 k1 hN hsz
  go_enter Try.func29, Try.ntmps29
  go_wp2_with fail
  generalize (w.alloc (.cells #[.bool true, .int .u32 1, .int .u32 2] 37)).alloc (.cells #[.bool false, .int .u32 0, .int .u32 0] 37) = w2 at *
  have ht1 := HT1.out w2 (w.heap.size + 1) _ rfl HK1.out
  rw [HSZ.out] at ht1
  refine ht1.mono ?_
  rintro e w3 ⟨rfl, hu3, hk3⟩
  have l2 : w.heap.size + 1 < w2.heap.size := (Array.getElem?_eq_some_iff.1 HK1.out).1
  have HK3 := hid hk3
  have HK03 := hid ((hu3.block w.heap.size (by omega) (by omega)).trans HK0.out)
  have HN3 := hid (Upd.trans HN.out hu3 (fun k hk h => by omega) : New w w3)
  clear hu3 hk3 ht1
  go_wp2_with fail
  refine (HT2.out w3).mono ?_
  rintro e w4 ⟨rfl, hn4⟩
  have HK4 := hid (hp1 HK3.out hn4)
  have HK04 := hid (hp1 HK03.out hn4)
  have HN4 := hid (New.trans HN3.out hn4)
  clear hn4
  have a0 : w4.cell? ⟨w.heap.size, 0, none⟩ = some (.bool true) := cellAt HK04.out 0 rfl
  have a1 : w4.cell? ⟨w.heap.size, 1, none⟩ = some (.int .u32 1) := cellAt HK04.out 1 rfl
  have a2 : w4.cell? ⟨w.heap.size, 2, none⟩ = some (.int .u32 2) := cellAt HK04.out 2 rfl
  go_wp2_with fail
  refine (HP.out w4).mono ?_
  rintro e w5 ⟨v', rfl, hb, ha⟩
  obtain ⟨hn5, hf⟩ := Adds.nil ha
  have hs := hb.rd.str
  have HK5 := hid (hp1 HK4.out hn5)
  have HK05 := hid (hp1 HK04.out hn5)
  have HN5 := hid (New.trans HN4.out hn5)
  rw [lmB_12] at hs
  clear hb ha hn5 hf a0 a1 a2
  have a0 : w5.cell? ⟨w.heap.size, 0, none⟩ = some (.bool true) := cellAt HK05.out 0 rfl
  have a1 : w5.cell? ⟨w.heap.size, 1, none⟩ = some (.int .u32 1) := cellAt HK05.out 1 rfl
  have a2 : w5.cell? ⟨w.heap.size, 2, none⟩ = some (.int .u32 2) := cellAt HK05.out 2 rfl
  have b0 : w5.cell? ⟨w.heap.size + 1, 0, none⟩ = some (.bool true) := cellAt HK5.out 0 rfl
  have b1 : w5.cell? ⟨w.heap.size + 1, 1, none⟩ = some (.int .u32 1) := cellAt HK5.out 1 rfl
  have b2 : w5.cell? ⟨w.heap.size + 1, 2, none⟩ = some (.int .u32 2) := cellAt HK5.out 2 rfl
  go_wp2_with fail
  go_ret
  exact ⟨rfl, HN5.out⟩
end Go.Proofs.Ytjagimlmclejeaa
