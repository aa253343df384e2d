/-
  The cursor: what must end so many bytes on; what tries.
-/
import Derived.Test.YtkfohickmdkplaaJ3
import Derived.Test.YtkfohickmdkplaaJ1
import Derived.Defers
import Derived.Recover
import Derived.StillTailTactics
import Derived.Test.YtkfohickmdkplaaJ5
import Derived.Test.YtkfohickmdkplaaJ0
import Derived.Test.YtkfohickmdkplaaJ2
import Derived.Shelf.Strconv.Itoa0
import Derived.Test.YtkfohickmdkplaaProg
import Derived.Deep.DeepCutAuto
namespace Go.Proofs.Ytkfohickmdkplaa
open Go.RowKit Go.Proofs.Leb Go.Proofs.Own Go.Proofs.Cur
set_option maxRecDepth 100000
set_option maxHeartbeats 4000000

/-- what is done with a cursor comes to this, in memory -/
def Did (C : Nat) (v : Value) (bs : List UInt8) (lim : Int) (o : Out Unit) (w : World) (e : Ending) : Prop := match o with
  | .ok _ q => e = .returned (.tuple #[]) ∧ Cur w C v bs q lim 0
  | .up q er => e = .panicked [{ v := gave C, recovered := false }] ∧ Cur w C v bs q lim er

/-- as far as a limit: all must be read -/
def withinO (lim : Int) (o : Out Unit) : Out Unit := match o with
  | .ok _ q => if rest lim q = 0 then .ok () q else .up q 2
  | .up q er => .up q er
def limO (n lim : Int) (p : Nat) : Int := p + min (max n 0) (rest lim p)

theorem limO_inv {len : Nat} {lim n : Int} {p : Nat} (hi : Inv len lim p) : Inv len (limO n lim p) p := by
  have h := hi.rest
  refine ⟨hi.place, hi.len, .inr ?_⟩
  unfold limO
  omega

theorem Within1_any (Bo Bc C : Nat) (outer : Int) (l0 : Value) (u : FrameMode) (w : World) (ho : w.cell? ⟨Bo, 0, none⟩ = some (.int .i64 outer)) (hc : w.cell? ⟨Bc, 0, none⟩ = some (.pointer (some ⟨C, 0, none⟩)))
    (hl : w.cell? ⟨C, 2, none⟩ = some l0) (hf : w.frozen? ⟨C, 2, none⟩ = false) :
    CallsD Try.prog 60 #[.pointer (some ⟨Bo, 0, none⟩), .pointer (some ⟨Bc, 0, none⟩)] u w fun e u' w' => u' = u ∧ (e = .returned (.tuple #[]) ∧ w' = w.setCell ⟨C, 2, none⟩ (.int .i64 outer)) := by
  go_enter_d Try.func60, Try.ntmps60
  go_wp2
  go_end0
  exact ⟨rfl, rfl⟩

def SW (a : World) (C Bc p : Nat) (w' : World) : Prop := Upd (· = C) a w' ∧ w'.cell? ⟨C, 1, none⟩ = some (.int .i64 p) ∧ w'.cell? ⟨Bc, 0, none⟩ = some (.pointer (some ⟨C, 0, none⟩))

theorem SW.new {a b c : World} {C Bc p : Nat} (h : SW a C Bc p b) (hn : New b c) : SW a C Bc p c := ⟨h.1.thenNew hn, hn.cell h.2.1 (fun h => h), hn.cell h.2.2 (fun h => h)⟩
theorem SW.put {a b : World} {C Bc p : Nat} (h : SW a C Bc p b) (hne : Bc ≠ C) (u : Value) : SW a C Bc p (b.setCell ⟨C, 2, none⟩ u) := by
  have n1 : (⟨C, 2, none⟩ : Addr) ≠ ⟨C, 1, none⟩ := by intro e; cases e
  have n2 : (⟨C, 2, none⟩ : Addr) ≠ ⟨Bc, 0, none⟩ := by intro e; cases e
  exact ⟨h.1.trans (updC _ _ _ _) (fun _ _ h => h), (World.cell?_setCell_other _ _ _ _ n1).trans h.2.1, (World.cell?_setCell_other _ _ _ _ n2).trans h.2.2⟩
theorem lim2_same {w : World} {C : Nat} {v : Value} {bs : List UInt8} {p : Nat} {lim : Int} {er : Nat} (h : Cur w C v bs p lim er) (q : Int) : Cur (w.setCell ⟨C, 2, none⟩ (.int .i64 q)) C v bs p q er := (h.lim2 q).1

theorem Within_any {w : World} {C : Nat} {v : Value} {bs : List UInt8} {p : Nat} {lim : Int} (h : Cur w C v bs p lim 0) (hi : Inv bs.length lim p) (n : Int) (hn1 : -9223372036854775808 ≤ n) (hn2 : n ≤ 9223372036854775807) (G : Nat) (cap : Array Value) (hG : Enters G)
    (S : Nat → Prop) (hS : ∀ k, S k → k < w.heap.size) (o : Out Unit) (K : World → Prop) (hK : ∀ a b, Upd (· = C) a b → K a → K b)
    (hin : ∀ q, o = .ok () q → Inv bs.length (limO n lim p) q)
    (hdo : ∀ w1, Upd (· = C) w w1 → Cur w1 C v bs p (limO n lim p) 0 → Calls Try.prog G cap w1 fun e w2 => Upd (fun k => k = C ∨ S k) w1 w2 ∧ Did C v bs (limO n lim p) o w2 e ∧ K w2) :
    Calls Try.prog 27 #[.pointer (some ⟨C, 0, none⟩), .int .i64 n, .func (.func G) #[] cap] w
      (fun e w' => Upd (fun k => k = C ∨ S k) w w' ∧ Did C v bs lim (withinO (limO n lim p) o) w' e ∧ K w') := by
  have HI := hid hi
  have HG := hid hG
  have HLI := limO_inv (n := n) hi
  have ip := hi.place
  have il := hi.len
  obtain ⟨r, hr⟩ : ∃ r : Nat, rest lim p = r := ⟨(rest lim p).toNat, by have := hi.rest; omega⟩
  have hr2 : r ≤ 1099511627776 := by have := hi.rest; omega
  obtain ⟨m, hm⟩ : ∃ m : Nat, max n 0 = m := ⟨(max n 0).toNat, by omega⟩
  obtain ⟨M, hM⟩ : ∃ M : Nat, min m r = M := ⟨_, rfl⟩
  have hlm : limO n lim p = p + M := by unfold limO; rw [hr, hm]; omega
  rw [hlm] at hdo hin HLI ⊢
  have HDO := hid hdo
  have HK := hid hK
  have HSS := hid hS
  have HIN := hid hin
  have H0 := hid h
  have hC := h.lt
  have HRR : Hid (∀ w2, New w w2 → Calls Try.prog 19 #[.pointer (some ⟨C, 0, none⟩)] w2 fun e w' => e = .returned (.int .i64 r) ∧ New w2 w') := by
    intro w2 hn
    have := Rest_any (h.new hn) hi
    rw [hr] at this
    exact this
  have HM := hid hM
  have HMM := hid hm
  have HLI' := hid HLI
  clear HLI
  have hmf : ∀ (fn : Fn) (first cap : Array Value) (w : World), (Instr.makeFunc fn first cap).run Try.prog w = .ok (.func fn first cap) w := fun _ _ _ _ => rfl
  clear hi hG hdo hK hS hin hr hm hM hlm
  go_enter_defers Try.func27, Try.ntmps27
  go_wp2_with fail
  refine (goOn_any (H0.out.new ((Upd.refl _ _).alloc _))).mono ?_
  rintro e w' ⟨rfl, rfl⟩
  have c2 := h.c2
  go_wp2_with fail
  have hn1 : New w ((w.alloc (.cells #[.pointer (some ⟨C, 0, none⟩)] 29)).alloc (.cells #[.int .i64 lim] 3)) := ((Upd.refl _ _).alloc _).alloc _
  have hb : One1 ((w.alloc (.cells #[.pointer (some ⟨C, 0, none⟩)] 29)).alloc (.cells #[.int .i64 lim] 3)) w.heap.size (.pointer (some ⟨C, 0, none⟩)) := (One1.mk rfl).push _
  have ho : One1 ((w.alloc (.cells #[.pointer (some ⟨C, 0, none⟩)] 29)).alloc (.cells #[.int .i64 lim] 3)) (w.heap.size + 1) (.int .i64 lim) := One1.mk (by simp)
  generalize (w.alloc (.cells #[.pointer (some ⟨C, 0, none⟩)] 29)).alloc (.cells #[.int .i64 lim] 3) = w1 at *
  have h1 := H0.out.new hn1
  have HB := hid hb
  have HOU := hid ho
  have H1 := hid h1
  have hnn : New w w1.drew := hn1.drew
  have hn : SW w1 C w.heap.size p w1.drew := ⟨(Upd.refl _ _).drew, h1.c1, hb.c⟩
  have em : (if n < 0 then (0 : Int) else n) = (m : Int) := by have := HMM.out; split <;> omega
  have eM : (if r < m then (r : Int) else (m : Int)) = (M : Int) := by have := HM.out; split <;> omega
  have ea : IntKind.i64.wrap ((p : Int) + (M : Int)) = (p : Int) + (M : Int) := by have := HM.out; rw [IntWalk.i64_in _ (by omega)]
  clear hn1 hb ho h1 c2 h
  refine wp_region_noPanic ?_
  refine wp_region_held_drew (S := (SW w1 C w.heap.size p)) (by kernel_rfl) (by first | exact hn | exact (Upd.refl _ _).drew | exact Upd.drew (by assumption)) (fun hn => ?_)
  generalize w1.drew = wd at *
  refine wpAnyH_take (i := 0) (oi := { dst := some 14, op := Op.load 29 (Operand.tmp 3), type := 29, pos := "cursor.go:146", after := #[], guard := none }) (v := ?v19x1) rfl (by kernel_rfl) (by kernel_rfl) (by kernel_rfl) (fun _ _ _ h => h) (Or.inl ⟨by rfl, ?y19x1⟩) hn ?r19x1
  case y19x1 => (intro wS hS; have c := hS.2.2; (try go_simp); (try with_reducible rfl))
  try simp only [Act.put, List.setIfInBounds_toArray, List.set_cons_zero, List.set_cons_succ]
  refine wpAnyH_take (i := 1) (oi := { dst := some 15, op := Op.load 29 (Operand.tmp 3), type := 29, pos := "cursor.go:146", after := #[], guard := none }) (v := ?v19x2) rfl (by kernel_rfl) (by kernel_rfl) (by kernel_rfl) (fun _ _ _ h => h) (Or.inl ⟨by rfl, ?y19x2⟩) hn ?r19x2
  case y19x2 => (intro wS hS; have c := hS.2.2; (try go_simp); (try with_reducible rfl))
  try simp only [Act.put, List.setIfInBounds_toArray, List.set_cons_zero, List.set_cons_succ]
  refine wpAnyH_take (i := 2) (oi := { dst := some 16, op := Op.nilCheck (Operand.tmp 15), type := 0, pos := "cursor.go:146", after := #[{ on := 1, ground := Ground.data }], guard := none }) (v := ?v19x3) rfl (by kernel_rfl) (by kernel_rfl) (by kernel_rfl) (fun _ _ _ h => h) (Or.inl ⟨by rfl, ?y19x3⟩) hn ?r19x3
  case y19x3 => (intro wS hS; (try go_simp); (try with_reducible rfl))
  try simp only [Act.put, List.setIfInBounds_toArray, List.set_cons_zero, List.set_cons_succ]
  refine wpAnyH_take (i := 3) (oi := { dst := some 17, op := Op.fieldAddr 54 (Operand.tmp 16) 1, type := 0, pos := "cursor.go:146", after := #[{ on := 2, ground := Ground.data }], guard := none }) (v := ?v19x4) rfl (by kernel_rfl) (by kernel_rfl) (by kernel_rfl) (fun _ _ _ h => h) (Or.inl ⟨by rfl, ?y19x4⟩) hn ?r19x4
  case y19x4 => (intro wS hS; (try go_simp); (try with_reducible rfl))
  try simp only [Act.put, List.setIfInBounds_toArray, List.set_cons_zero, List.set_cons_succ]
  refine wpAnyH_take (i := 4) (oi := { dst := some 18, op := Op.load 3 (Operand.tmp 17), type := 3, pos := "cursor.go:146", after := #[{ on := 3, ground := Ground.data }], guard := none }) (v := ?v19x5) rfl (by kernel_rfl) (by kernel_rfl) (by kernel_rfl) (fun _ _ _ h => h) (Or.inl ⟨by rfl, ?y19x5⟩) hn ?r19x5
  case y19x5 => (intro wS hS; have c := hS.2.1; (try go_simp); (try with_reducible rfl))
  try simp only [Act.put, List.setIfInBounds_toArray, List.set_cons_zero, List.set_cons_succ]
  refine wpAnyH_take (i := 5) (oi := { dst := some 19, op := Op.move (Operand.tmp 1), type := 3, pos := "cursor.go:146", after := #[], guard := none }) (v := ?v19x6) rfl (by kernel_rfl) (by kernel_rfl) (by kernel_rfl) (fun _ _ _ h => h) (Or.inl ⟨by rfl, ?y19x6⟩) hn ?r19x6
  case y19x6 => (intro wS hS; (try go_simp); (try with_reducible rfl))
  try simp only [Act.put, List.setIfInBounds_toArray, List.set_cons_zero, List.set_cons_succ]
  refine wpAnyH_take (i := 6) (oi := { dst := some 20, op := Op.call { callee := Callee.builtin Builtin.max, args := #[Operand.tmp 19, Operand.const (Value.int IntKind.i64 0)], argTypes := #[3, 3] }, type := 3, pos := "cursor.go:146", after := #[{ on := 5, ground := Ground.data }], guard := none }) (v := ?v19x7) rfl (by kernel_rfl) (by kernel_rfl) (by kernel_rfl) (fun _ _ _ h => h) (Or.inl ⟨by rfl, ?y19x7⟩) hn ?r19x7
  case y19x7 => (intro wS hS; (try go_simp); (try with_reducible rfl))
  try simp only [Act.put, List.setIfInBounds_toArray, List.set_cons_zero, List.set_cons_succ]
  refine wpAnyH_take (i := 7) (oi := { dst := some 21, op := Op.load 29 (Operand.tmp 3), type := 29, pos := "cursor.go:146", after := #[], guard := none }) (v := ?v19x8) rfl (by kernel_rfl) (by kernel_rfl) (by kernel_rfl) (fun _ _ _ h => h) (Or.inl ⟨by rfl, ?y19x8⟩) hn ?r19x8
  case y19x8 => (intro wS hS; have c := hS.2.2; (try go_simp); (try with_reducible rfl))
  try simp only [Act.put, List.setIfInBounds_toArray, List.set_cons_zero, List.set_cons_succ]
  refine wpAnyH_ready (rs := [8]) (by kernel_rfl) (by simp) ?_
  refine AllReadyH.cons (o := { dst := some 22, op := Op.call { callee := Callee.value (Operand.func 19), args := #[Operand.tmp 21], argTypes := #[29] }, type := 3, pos := "cursor.go:146", after := #[{ on := 7, ground := Ground.data }], guard := none }) rfl (fun K hK => ?_) AllReadyH.nil
  go_simp
  refine (HRR.out _ hnn).mono ?_
  rintro e wa ⟨rfl, hna⟩
  go_wp2_with fail
  have hn := hn.new hna
  have hnn := New.trans hnn hna
  refine hK.out _ _ (by first | exact hn | exact Upd.alloc hn _) (fun hn => ?_)
  clear hK K
  try simp only [Act.put, List.setIfInBounds_toArray, List.set_cons_zero, List.set_cons_succ]
  refine wpAnyH_take (i := 9) (oi := { dst := some 23, op := Op.call { callee := Callee.builtin Builtin.min, args := #[Operand.tmp 20, Operand.tmp 22], argTypes := #[3, 3] }, type := 3, pos := "cursor.go:146", after := #[{ on := 6, ground := Ground.data }, { on := 8, ground := Ground.data }], guard := none }) (v := ?v19x9) rfl (by kernel_rfl) (by kernel_rfl) (by kernel_rfl) (fun _ _ _ h => h) (Or.inl ⟨by rfl, ?y19x9⟩) hn ?r19x9
  case y19x9 => (intro wS hS; (try go_simp); (try with_reducible rfl))
  try simp only [Act.put, List.setIfInBounds_toArray, List.set_cons_zero, List.set_cons_succ]
  refine wpAnyH_take (i := 10) (oi := { dst := some 24, op := Op.binOp BinOp.add 3 (Operand.tmp 18) (Operand.tmp 23) 3, type := 3, pos := "cursor.go:146", after := #[{ on := 4, ground := Ground.data }, { on := 9, ground := Ground.data }], guard := none }) (v := ?v19x10) rfl (by kernel_rfl) (by kernel_rfl) (by kernel_rfl) (fun _ _ _ h => h) (Or.inl ⟨by rfl, ?y19x10⟩) hn ?r19x10
  case y19x10 => (intro wS hS; (try go_simp); (try with_reducible rfl))
  try simp only [Act.put, List.setIfInBounds_toArray, List.set_cons_zero, List.set_cons_succ]
  refine wpAnyH_take (i := 11) (oi := { dst := some 25, op := Op.nilCheck (Operand.tmp 14), type := 0, pos := "cursor.go:146", after := #[{ on := 0, ground := Ground.data }, { on := 0, ground := Ground.phase }, { on := 1, ground := Ground.phase }, { on := 2, ground := Ground.phase }, { on := 3, ground := Ground.phase }, { on := 4, ground := Ground.phase }, { on := 5, ground := Ground.phase }, { on := 6, ground := Ground.phase }, { on := 7, ground := Ground.phase }, { on := 8, ground := Ground.phase }, { on := 9, ground := Ground.phase }, { on := 10, ground := Ground.phase }], guard := none }) (v := ?v19x11) rfl (by kernel_rfl) (by kernel_rfl) (by kernel_rfl) (fun _ _ _ h => h) (Or.inl ⟨by rfl, ?y19x11⟩) hn ?r19x11
  case y19x11 => (intro wS hS; (try go_simp); (try with_reducible rfl))
  try simp only [Act.put, List.setIfInBounds_toArray, List.set_cons_zero, List.set_cons_succ]
  refine wpAnyH_take (i := 12) (oi := { dst := some 26, op := Op.fieldAddr 54 (Operand.tmp 25) 2, type := 0, pos := "cursor.go:146", after := #[{ on := 11, ground := Ground.data }, { on := 0, ground := Ground.phase }, { on := 1, ground := Ground.phase }, { on := 2, ground := Ground.phase }, { on := 3, ground := Ground.phase }, { on := 4, ground := Ground.phase }, { on := 5, ground := Ground.phase }, { on := 6, ground := Ground.phase }, { on := 7, ground := Ground.phase }, { on := 8, ground := Ground.phase }, { on := 9, ground := Ground.phase }, { on := 10, ground := Ground.phase }], guard := none }) (v := ?v19x12) rfl (by kernel_rfl) (by kernel_rfl) (by kernel_rfl) (fun _ _ _ h => h) (Or.inl ⟨by rfl, ?y19x12⟩) hn ?r19x12
  case y19x12 => (intro wS hS; (try go_simp); (try with_reducible rfl))
  try simp only [Act.put, List.setIfInBounds_toArray, List.set_cons_zero, List.set_cons_succ]
  refine wpAnyH_ready (rs := [13]) (by kernel_rfl) (by simp) ?_
  refine AllReadyH.cons (o := { dst := none, op := Op.store 3 (Operand.tmp 26) (Operand.tmp 24), type := 0, pos := "cursor.go:146", after := #[{ on := 12, ground := Ground.data }, { on := 10, ground := Ground.data }, { on := 8, ground := Ground.chain }, { on := 0, ground := Ground.phase }, { on := 1, ground := Ground.phase }, { on := 2, ground := Ground.phase }, { on := 3, ground := Ground.phase }, { on := 4, ground := Ground.phase }, { on := 5, ground := Ground.phase }, { on := 6, ground := Ground.phase }, { on := 7, ground := Ground.phase }, { on := 8, ground := Ground.phase }, { on := 9, ground := Ground.phase }, { on := 10, ground := Ground.phase }], guard := none }) rfl (fun K hK => ?_) AllReadyH.nil
  have f := (H0.out.new hnn).f 2
  have c := (H0.out.new hnn).c2
  go_simp
  have hn := hn.put (by omega) (.int .i64 ((p : Int) + (M : Int)))
  have c5 := lim2_same (H0.out.new hnn) ((p : Int) + (M : Int))
  have u5 := (New.upd hnn).trans (updC _ C 2 (.int .i64 ((p : Int) + (M : Int)))) (fun _ _ h => h)
  refine hK.out _ _ (by first | exact hn | exact Upd.alloc hn _) (fun hn => ?_)
  clear hK K
  try simp only [Act.put, List.setIfInBounds_toArray, List.set_cons_zero, List.set_cons_succ]
  refine wpAnyH_done (by kernel_rfl) ?_ _
  refine NoPanic.normal ?_
  have b5 := hn.2.2
  have o5 := HOU.out.upd hn.1 (by omega)
  generalize wa.setCell ⟨C, 2, none⟩ (.int .i64 ((p : Int) + (M : Int))) = w5 at *
  have B5 := hid b5
  have O5 := hid o5
  have C5 := hid c5
  have U5 := hid u5
  clear hn hnn hna b5 o5 c5 u5 em eM ea f c HB HOU H1
  go_wp2_with fail
  refine upon_callv HG.out (HDO.out w5 U5.out C5.out) ?_
  rintro e w6 ⟨hu6, hd6, hk6⟩
  have U6 : Hid (Upd (fun k => k = C ∨ S k) w w6) := (U5.out.mono (fun _ _ h => .inl h)).trans hu6 (fun _ _ h => h)
  have o6 := O5.out.upd hu6 (by intro hh; rcases hh with hh | hh; · omega
                                · have := HSS.out _ hh; omega)
  have b6 : w6.cell? ⟨w.heap.size, 0, none⟩ = some (.pointer (some ⟨C, 0, none⟩)) := hu6.cell B5.out (by intro hh; rcases hh with hh | hh; · simp at hh; omega
                                                                                                         · have := HSS.out _ hh; simp at this)
  have O6 := hid o6
  have B6 := hid b6
  have K6 := hid hk6
  clear o6 hu6 hk6
  cases o with
  | up q er =>
    obtain ⟨rfl, hc6⟩ := hd6
    have C6 := hid hc6
    clear hc6 b6
    go_wp2_with fail
    refine leaves_cons (f := 60) (args := #[.pointer (some ⟨w.heap.size + 1, 0, none⟩), .pointer (some ⟨w.heap.size, 0, none⟩)]) (by simp) (by simp [go_sem]) ?_
    refine (Within1_any (w.heap.size + 1) w.heap.size C lim _ _ w6 O6.out.c B6.out C6.out.c2 (C6.out.f 2)).mono ?_
    rintro e u' w'' ⟨rfl, rfl, rfl⟩
    have h7 := C6.out.lim2 lim
    exact ⟨U6.out.trans h7.2 (fun _ _ h => .inl h), ⟨rfl, h7.1⟩, HK.out _ _ h7.2 K6.out⟩
  | ok _ q =>
    obtain ⟨rfl, hc6⟩ := hd6
    have C6 := hid hc6
    have iq := HIN.out q rfl
    have HRQ := hid (Rest_any hc6 iq)
    obtain ⟨z, hz⟩ : ∃ z, rest ((p : Int) + (M : Int)) q = z := ⟨_, rfl⟩
    rw [hz] at HRQ
    have HW : Hid ((z = 0 → withinO ((p : Int) + (M : Int)) (.ok () q) = .ok () q) ∧ (z ≠ 0 → withinO ((p : Int) + (M : Int)) (.ok () q) = .up q 2)) := by
      constructor
      · intro h; unfold withinO; simp only; rw [if_pos (hz.trans h)]
      · intro h; unfold withinO; simp only; rw [if_neg (by rw [hz]; exact h)]
    clear hc6 hz
    by_cases z0 : z = 0
    · have hb : (z != 0) = false := by simp [z0]
      have HZ := hid z0
      clear z0
      go_wp2_with fail
      refine HRQ.out.mono ?_
      rintro e w7 ⟨rfl, hn7⟩
      have C7 := hid (C6.out.new hn7)
      have o7 := O6.out.new hn7
      have b7 := hn7.cell B6.out (fun h => h)
      have U7 := hid (U6.out.thenNew hn7)
      have K7 := hid (HK.out _ _ (New.upd hn7) K6.out)
      have O7 := hid o7
      have B7 := hid b7
      clear hn7 o7 b7
      go_wp2_with fail
      refine leaves_cons (f := 60) (args := #[.pointer (some ⟨w.heap.size + 1, 0, none⟩), .pointer (some ⟨w.heap.size, 0, none⟩)]) (by simp) (by simp [go_sem]) ?_
      refine (Within1_any (w.heap.size + 1) w.heap.size C lim _ _ w7 O7.out.c B7.out C7.out.c2 (C7.out.f 2)).mono ?_
      rintro e u' w'' ⟨rfl, rfl, rfl⟩
      have h8 := C7.out.lim2 lim
      refine ⟨_, results_none rfl _ _ _, U7.out.trans h8.2 (fun _ _ h => .inl h), ?_, HK.out _ _ h8.2 K7.out⟩
      rw [HW.out.1 HZ.out]
      exact ⟨rfl, h8.1⟩
    · have hb : (z != 0) = true := by simp [z0]
      have HZ := hid z0
      clear z0
      go_wp2_with fail
      refine HRQ.out.mono ?_
      rintro e w7 ⟨rfl, hn7⟩
      have c7 := C6.out.new hn7
      have o7 := O6.out.new hn7
      have b7 := hn7.cell B6.out (fun h => h)
      have U7 := hid (U6.out.thenNew hn7)
      have K7 := hid (HK.out _ _ (New.upd hn7) K6.out)
      have O7 := hid o7
      have B7 := hid b7
      have C7 := hid c7
      have cc := c7.c1
      clear hn7 o7 c7 b6
      go_wp2_with fail
      go_still_tail 5, (by kernel_rfl)
      change wpList _ _ _ _ _ w7.drew
      clear b7 cc
      have C8 : Hid (Cur w7.drew C v bs q ((p : Int) + (M : Int)) 0) := C7.out.new (Upd.refl _ _).drew
      have O8 : Hid (One1 w7.drew (w.heap.size + 1) (.int .i64 lim)) := O7.out
      have B8 : Hid (w7.drew.cell? ⟨w.heap.size, 0, none⟩ = some (.pointer (some ⟨C, 0, none⟩))) := B7.out
      have U8 : Hid (Upd (fun k => k = C ∨ S k) w w7.drew) := U7.out.drew
      have K8 : Hid (K w7.drew) := HK.out _ _ ((Upd.refl _ _).drew) K7.out
      generalize w7.drew = w8 at *
      go_wp2_with fail
      refine (giveUp_any C8.out q 2).mono ?_
      rintro e w9 ⟨rfl, hc9, hu9⟩
      have C9 := hid hc9
      have U9 := hid (U8.out.trans hu9 (fun _ _ h => .inl h))
      have K9 := hid (HK.out _ _ hu9 K8.out)
      have O9 := hid (O8.out.upd hu9 (by omega))
      have B9 : Hid (w9.cell? ⟨w.heap.size, 0, none⟩ = some (.pointer (some ⟨C, 0, none⟩))) := hu9.cell B8.out (by simp; omega)
      clear hc9 hu9
      go_wp2_with fail
      refine leaves_cons (f := 60) (args := #[.pointer (some ⟨w.heap.size + 1, 0, none⟩), .pointer (some ⟨w.heap.size, 0, none⟩)]) (by simp) (by simp [go_sem]) ?_
      refine (Within1_any (w.heap.size + 1) w.heap.size C lim _ _ w9 O9.out.c B9.out C9.out.c2 (C9.out.f 2)).mono ?_
      rintro e u' w'' ⟨rfl, rfl, rfl⟩
      have h10 := C9.out.lim2 lim
      refine ⟨U9.out.trans h10.2 (fun _ _ h => .inl h), ?_, HK.out _ _ h10.2 K9.out⟩
      rw [HW.out.2 HZ.out]
      exact ⟨rfl, h10.1⟩
end Go.Proofs.Ytkfohickmdkplaa

namespace Go.Proofs.Cur
open Go.Proofs.Leb Go.Proofs.Span

/-- something asked of a cursor -/
structure AskM where
  doo : Nat
  n : Int
  lo : Nat
  hi : Nat
  x : Wnt

/-- may a byte stand? -/
def AskM.byte (a : AskM) (x : UInt8) (_ : Int) : Prop := a.lo ≤ x.toNat ∧ x.toNat ≤ a.hi
end Go.Proofs.Cur
namespace Go.Proofs.Ytkfohickmdkplaa
open Go.RowKit Go.Proofs.Leb Go.Proofs.Own Go.Proofs.Cur Go.Proofs.Span
set_option maxRecDepth 100000
set_option maxHeartbeats 4000000

/-- what comes of one thing asked, but of a limit: the bytes of its text -/
noncomputable def askO (bs : List UInt8) (lim : Int) (a : AskM) (p : Nat) : Out (List UInt8) :=
  if a.doo % 6 = 0 then (byteO bs lim a.byte p).bind fun x q => .ok [x] q
  else if a.doo % 6 = 1 then (uintO bs lim a.x.may p).bind fun ds q => .ok (numL (val ds) 8) q
  else if a.doo % 6 = 2 then (sintO bs lim (fun r => hasR a.x.b1 a.x.b2 r) a.n.toNat p).bind fun ds q => .ok (numL (sval ds % 18446744073709551616).toNat 8) q
  else if a.doo % 6 = 3 then rawO bs lim a.n p
  else nameS bs lim (lenW a.x.b1 a.x.b2).may p
/-- what comes of all that is asked: the texts, and how it ends -/
noncomputable def allO (bs : List UInt8) : List AskM → Int → Nat → List (List UInt8) × Out Unit
  | [], _, p => ([], .ok () p)
  | a :: l, lim, p =>
    if a.doo % 6 = 5 then ((allO bs l (limO a.n lim p) p).1, withinO (limO a.n lim p) (allO bs l (limO a.n lim p) p).2)
    else match askO bs lim a p with
      | .up q e => ([], .up q e)
      | .ok s q => (s :: numL q 8 :: numL (rest lim q).toNat 8 :: (allO bs l lim q).1, (allO bs l lim q).2)

theorem asked1_any (x : UInt8) (lo hi Bx Bc C : Nat) (v : Value) (bs : List UInt8) (q : Nat) (lim : Int) (w : World) (hlo : w.cell? ⟨Bx, 2, none⟩ = some (.int .u8 lo)) (hhi : w.cell? ⟨Bx, 3, none⟩ = some (.int .u8 hi))
    (hc : w.cell? ⟨Bc, 0, none⟩ = some (.pointer (some ⟨C, 0, none⟩))) (h : Cur w C v bs q lim 0) (hi' : Inv bs.length lim q) :
    Calls Try.prog 18 #[cb x, .int .i64 (rest lim q), .pointer (some ⟨Bx, 0, none⟩), .pointer (some ⟨Bc, 0, none⟩)] w (Yes (lo ≤ x.toNat ∧ x.toNat ≤ hi) w) := by
  have HR := hid (Rest_any h hi')
  generalize rest lim q = r at *
  clear h hi'
  unfold cb
  by_cases h1 : lo ≤ x.toNat
  · have h1i : (lo : Int) ≤ (x.toNat : Int) := by omega
    by_cases h2 : x.toNat ≤ hi
    · have h2i : (x.toNat : Int) ≤ (hi : Int) := by omega
      have H1 := hid h1
      have H2 := hid h2
      clear h1 h2
      go_enter Try.func18, Try.ntmps18
      go_wp2_with fail
      refine (HR.out).mono ?_
      rintro e w1 ⟨rfl, hn⟩
      go_wp2_with fail
      go_ret
      exact ⟨true, rfl, by simp only [true_iff]; exact ⟨H1.out, H2.out⟩, hn⟩
    · have h2i : ¬ (x.toNat : Int) ≤ (hi : Int) := by omega
      have H2 := hid h2
      clear h1 h2
      go_enter Try.func18, Try.ntmps18
      go_wp2_with fail
      go_ret
      exact ⟨false, rfl, iff_of_false (by decide) (fun h => H2.out h.2), Upd.refl _ _⟩
  · have h1i : ¬ (lo : Int) ≤ (x.toNat : Int) := by omega
    have H1 := hid h1
    clear h1
    go_enter Try.func18, Try.ntmps18
    go_wp2_with fail
    go_ret
    exact ⟨false, rfl, iff_of_false (by decide) (fun h => H1.out h.1), Upd.refl _ _⟩
end Go.Proofs.Ytkfohickmdkplaa

namespace Go.Proofs.Ytkfohickmdkplaa
open Go.RowKit Go.Proofs.Leb Go.Proofs.Own Go.Proofs.Cur Go.ChangeShapes Go.WideShapes Go.Deep
set_option maxRecDepth 100000

instance : Inhabited AskM := ⟨⟨0, 0, 0, 0, ⟨0, 0, 0, 0, 0, 0, 0, 0, 0, []⟩⟩⟩
def rowK (y : Nat × Int × Int) : List Value := [.int .u64 y.1, .int .i64 y.2.1, .int .i64 y.2.2]
/-- an ask, by value -/
def rowA (a : AskM) (pv : Value) : Array Value := #[.int .u8 a.doo, .int .i64 a.n, .int .u8 a.lo, .int .u8 a.hi] ++ valW a.x pv
theorem rdk_of {w : World} {B : Nat → Prop} {v : Value} {ps : List (Nat × Int × Int)} (h : RdE 3 (Pure rowK) w B v ps) : RdK w v ps := by
  obtain ⟨a, cap, rfl, h1, h2, h3, h4⟩ := h
  refine ⟨a, cap, rfl, h1, h2, fun hne => ?_⟩
  obtain ⟨b, o, rfl, hc⟩ := h4 hne
  refine ⟨b, o, rfl, fun i hi => ?_⟩
  obtain ⟨row, hl, he, hr⟩ := hc i hi
  unfold Own.Pure at he
  subst he
  exact ⟨hr 0 _ rfl, hr 1 _ rfl, hr 2 _ rfl⟩
def EAsk : ERep AskM := fun w B a row => ∃ pv, row = (rowA a pv).toList ∧ RdK w pv a.x.picks ∧ (a.x.picks ≠ [] → ∀ k, pv.ownBlock = some k → B k)
theorem EAsk.ok : EAsk.Ok := ⟨fun ⟨pv, e, h, h2⟩ hu hS => ⟨pv, e, h.upd hu (fun hne k hk => hS k (h2 hne k hk)), h2⟩, fun ⟨pv, e, h, h2⟩ hB => ⟨pv, e, h, fun hne k hk => hB k (h2 hne k hk)⟩⟩
theorem EAsk.there {w : World} {a : AskM} {row : List Value} (h : EAsk w (fun _ => True) a row) : EAsk w (fun k => k < w.heap.size) a row := by
  obtain ⟨pv, e, h, -⟩ := h
  refine ⟨pv, e, h, fun hne k hk => ?_⟩
  obtain ⟨a', cap, rfl, h1, h2, h3⟩ := h
  obtain ⟨b, o, rfl, hc⟩ := h3 hne
  cases hk
  exact World.block_lt_of_cell? w _ (hc 0 (List.length_pos_iff.2 hne)).1
/-- a slice of asks that can be read, in blocks of B -/
def RdA (w : World) (B : Nat → Prop) (v : Value) (l : List AskM) : Prop :=
  (∃ a cap, v = .slice a l.length cap ∧ l.length ≤ cap) ∧ (l ≠ [] → RdE 14 EAsk w B v l)
theorem RdA.of {w : World} {v : Value} {l : List AskM} (h : RdE 14 EAsk w (fun _ => True) v l) : RdA w (fun k => k < w.heap.size) v l := by
  obtain ⟨a, cap, rfl, h1, h2, h3, h4⟩ := h
  refine ⟨⟨a, cap, rfl, h1⟩, fun hne => ⟨a, cap, rfl, h1, h2, ?_, fun _ => ?_⟩⟩
  · obtain ⟨b, o, rfl, hc⟩ := h4 hne
    rintro k hk
    cases hk
    obtain ⟨row, r1, r2, r3⟩ := hc 0 (List.length_pos_iff.2 hne)
    obtain ⟨u, hu⟩ : ∃ u, row[0]? = some u := ⟨_, List.getElem?_eq_getElem (by omega)⟩
    exact World.block_lt_of_cell? w _ (r3 0 u hu)
  · obtain ⟨b, o, e, hc⟩ := h4 hne
    refine ⟨b, o, e, fun i hi => ?_⟩
    obtain ⟨row, r1, r2, r3⟩ := hc i hi
    exact ⟨row, r1, r2.there, r3⟩
theorem RdA.upd {S : Nat → Prop} {w w' : World} {B : Nat → Prop} {v : Value} {l : List AskM} (h : RdA w B v l) (hu : Upd S w w') (hS : ∀ k, B k → ¬ S k) : RdA w' B v l := ⟨h.1, fun hne => (h.2 hne).upd EAsk.ok hu hS⟩
theorem RdA.new {w w' : World} {B : Nat → Prop} {v : Value} {l : List AskM} (h : RdA w B v l) (hn : New w w') : RdA w' B v l := h.upd hn (fun _ _ h => h)
def I64 (z : Int) : Prop := -9223372036854775808 ≤ z ∧ z ≤ 9223372036854775807
def WfK (y : Nat × Int × Int) : Prop := y.1 < 18446744073709551616 ∧ I64 y.2.1 ∧ I64 y.2.2
structure WfA (a : AskM) : Prop where
  doo : a.doo < 256
  n : I64 a.n
  lo : a.lo < 256
  hi : a.hi < 256
  kind : I64 a.x.kind
  xlo : a.x.lo < 18446744073709551616
  xhi : a.x.hi < 18446744073709551616
  i1 : I64 a.x.i1
  i2 : I64 a.x.i2
  o1 : I64 a.x.o1
  o2 : I64 a.x.o2
  b1 : I64 a.x.b1
  b2 : I64 a.x.b2
  picks : ∀ y ∈ a.x.picks, WfK y
  few : a.x.picks.length ≤ 140737488355328
section
variable {H : Type} {enc : TypeId × Value → H} {w : World} {base : Nat} {held : Bool}
theorem span_of {fuel : Nat} {c0 c1 : Value} {x : DataW H × List MemPlace} (h : DataW.trod enc Try.prog w base (fun _ => true) held fuel 44 [c0, c1] = some x) (hL : Light Try.prog 44 x.1) :
    ∃ a b : Int, c0 = .int .i64 a ∧ c1 = .int .i64 b ∧ I64 a ∧ I64 b := by
  obtain ⟨n0, y0, g0, l0⟩ := part1 Try.underlying44 h hL 0 rfl (by kernel_rfl) (u := c0) rfl
  obtain ⟨a0, e0, _, w0⟩ := DataW.trod_int Try.underlying3 g0
  obtain ⟨n1, y1, g1, l1⟩ := part1 Try.underlying44 h hL 1 rfl (by kernel_rfl) (u := c1) rfl
  obtain ⟨a1, e1, _, w1⟩ := DataW.trod_int Try.underlying3 g1
  exact ⟨a0, a1, by simpa using e0, by simpa using e1, ⟨(wf_i64 w0).1, by have := (wf_i64 w0).2; omega⟩, ⟨(wf_i64 w1).1, by have := (wf_i64 w1).2; omega⟩⟩
theorem nat8 {z : Int} (h : 0 ≤ z ∧ z < 256) : ∃ n : Nat, z = n ∧ n < 256 := ⟨z.toNat, by omega, by omega⟩
theorem nat64 {z : Int} (h : 0 ≤ z ∧ z < 18446744073709551616) : ∃ n : Nat, z = n ∧ n < 18446744073709551616 := ⟨z.toNat, by omega, by omega⟩
theorem pick_of (fuel : Nat) (cs : List Value) (x : DataW H × List MemPlace) (h : DataW.trod enc Try.prog w base (fun _ => true) held fuel 52 cs = some x) (hl : cs.length = 3) (hL : Light Try.prog 52 x.1) :
    ∃ y, Pure rowK w (fun _ => True) y cs ∧ WfK y := by
  obtain ⟨c0, c1, c2, rfl⟩ : ∃ c0 c1 c2, cs = [c0, c1, c2] := by
    match cs, hl with
    | [c0, c1, c2], _ => exact ⟨c0, c1, c2, rfl⟩
  obtain ⟨n0, y0, g0, l0⟩ := part1 Try.underlying52 h hL 0 rfl (by kernel_rfl) (u := c0) rfl
  obtain ⟨a0, e0, _, w0⟩ := DataW.trod_int Try.underlying42 g0
  obtain rfl : c0 = _ := by simpa using e0
  obtain ⟨n1, y1, g1, l1⟩ := partN Try.underlying52 h hL 1 rfl (k := 2) (by kernel_rfl) (ds := [c1, c2]) rfl
  obtain ⟨a, b, rfl, rfl, ha, hb⟩ := span_of g1 l1
  obtain ⟨m, rfl, hm⟩ := nat64 ⟨(wf_u64 w0).1, (wf_u64 w0).2⟩
  exact ⟨(m, a, b), rfl, hm, ha, hb⟩
theorem picks_of (fuel : Nat) (cs : List Value) (y : DataW H × List MemPlace) (h : DataW.trod enc Try.prog w base (fun _ => true) held fuel 45 cs = some y) (hL : Light Try.prog 45 y.1) :
    ∃ v, cs = [v] ∧ ∃ xs, RdE 3 (Pure rowK) w (fun _ => True) v xs ∧ xs.length ≤ 140737488355328 ∧ ∀ x ∈ xs, WfK x := by
  obtain ⟨v, e, xs, h1, h2, h3⟩ := rdnOf (Pure rowK) WfK Try.underlying45 (e := 52) (n := 3) (by kernel_rfl) (by decide) (of_decide_eq_true (by kernel_rfl)) h hL (fun fuel cs x h hl hL => pick_of fuel cs x h hl hL)
  exact ⟨v, e, xs, h1, Nat.le_trans h2 reach_le, h3⟩
theorem want_of (fuel : Nat) (cs : List Value) (x : DataW H × List MemPlace) (h : DataW.trod enc Try.prog w base (fun _ => true) held fuel 47 cs = some x) (hl : cs.length = 10) (hL : Light Try.prog 47 x.1) :
    ∃ (m : Wnt) (pv : Value), cs = (valW m pv).toList ∧ RdE 3 (Pure rowK) w (fun _ => True) pv m.picks ∧ I64 m.kind ∧ m.lo < 18446744073709551616 ∧ m.hi < 18446744073709551616 ∧ I64 m.i1 ∧ I64 m.i2 ∧ I64 m.o1 ∧ I64 m.o2 ∧ I64 m.b1 ∧ I64 m.b2 ∧ (∀ y ∈ m.picks, WfK y) ∧ m.picks.length ≤ 140737488355328 := by
  obtain ⟨c0, c1, c2, c3, c4, c5, c6, c7, c8, c9, rfl⟩ : ∃ c0 c1 c2 c3 c4 c5 c6 c7 c8 c9, cs = [c0, c1, c2, c3, c4, c5, c6, c7, c8, c9] := by
    match cs, hl with
    | [c0, c1, c2, c3, c4, c5, c6, c7, c8, c9], _ => exact ⟨c0, c1, c2, c3, c4, c5, c6, c7, c8, c9, rfl⟩
  obtain ⟨n0, y0, g0, l0⟩ := part1 Try.underlying47 h hL 0 rfl (by kernel_rfl) (u := c0) rfl
  obtain ⟨a0, e0, _, w0⟩ := DataW.trod_int Try.underlying3 g0
  obtain rfl : c0 = _ := by simpa using e0
  obtain ⟨n1, y1, g1, l1⟩ := part1 Try.underlying47 h hL 1 rfl (by kernel_rfl) (u := c1) rfl
  obtain ⟨a1, e1, _, w1⟩ := DataW.trod_int Try.underlying42 g1
  obtain rfl : c1 = _ := by simpa using e1
  obtain ⟨n2, y2, g2, l2⟩ := part1 Try.underlying47 h hL 2 rfl (by kernel_rfl) (u := c2) rfl
  obtain ⟨a2, e2, _, w2⟩ := DataW.trod_int Try.underlying42 g2
  obtain rfl : c2 = _ := by simpa using e2
  obtain ⟨n3, y3, g3, l3⟩ := partN Try.underlying47 h hL 3 rfl (k := 2) (by kernel_rfl) (ds := [c3, c4]) rfl
  obtain ⟨i1, i2, rfl, rfl, hi1, hi2⟩ := span_of g3 l3
  obtain ⟨n4, y4, g4, l4⟩ := partN Try.underlying47 h hL 4 rfl (k := 2) (by kernel_rfl) (ds := [c5, c6]) rfl
  obtain ⟨o1, o2, rfl, rfl, ho1, ho2⟩ := span_of g4 l4
  obtain ⟨n5, y5, g5, l5⟩ := partN Try.underlying47 h hL 5 rfl (k := 2) (by kernel_rfl) (ds := [c7, c8]) rfl
  obtain ⟨b1, b2, rfl, rfl, hb1, hb2⟩ := span_of g5 l5
  obtain ⟨n6, y6, g6, l6⟩ := part1 Try.underlying47 h hL 6 rfl (by kernel_rfl) (u := c9) rfl
  obtain ⟨pv, e6, ps, hr, hpl, hpw⟩ := picks_of _ _ _ g6 l6
  obtain rfl : c9 = _ := by simpa using e6
  obtain ⟨m1, rfl, hm1⟩ := nat64 ⟨(wf_u64 w1).1, (wf_u64 w1).2⟩
  obtain ⟨m2, rfl, hm2⟩ := nat64 ⟨(wf_u64 w2).1, (wf_u64 w2).2⟩
  exact ⟨⟨a0, m1, m2, i1, i2, o1, o2, b1, b2, ps⟩, c9, rfl, hr, ⟨(wf_i64 w0).1, by have := (wf_i64 w0).2; omega⟩, hm1, hm2, hi1, hi2, ho1, ho2, hb1, hb2, hpw, hpl⟩
theorem ask_of (fuel : Nat) (cs : List Value) (x : DataW H × List MemPlace) (h : DataW.trod enc Try.prog w base (fun _ => true) held fuel 49 cs = some x) (hl : cs.length = 14) (hL : Light Try.prog 49 x.1) :
    ∃ a : AskM, EAsk w (fun _ => True) a cs ∧ WfA a := by
  obtain ⟨c0, c1, c2, c3, c4, c5, c6, c7, c8, c9, c10, c11, c12, c13, rfl⟩ : ∃ c0 c1 c2 c3 c4 c5 c6 c7 c8 c9 c10 c11 c12 c13, cs = [c0, c1, c2, c3, c4, c5, c6, c7, c8, c9, c10, c11, c12, c13] := by
    match cs, hl with
    | [c0, c1, c2, c3, c4, c5, c6, c7, c8, c9, c10, c11, c12, c13], _ => exact ⟨c0, c1, c2, c3, c4, c5, c6, c7, c8, c9, c10, c11, c12, c13, rfl⟩
  obtain ⟨n0, y0, g0, l0⟩ := part1 Try.underlying49 h hL 0 rfl (by kernel_rfl) (u := c0) rfl
  obtain ⟨a0, e0, _, w0⟩ := DataW.trod_int Try.underlying5 g0
  obtain rfl : c0 = _ := by simpa using e0
  obtain ⟨n1, y1, g1, l1⟩ := part1 Try.underlying49 h hL 1 rfl (by kernel_rfl) (u := c1) rfl
  obtain ⟨a1, e1, _, w1⟩ := DataW.trod_int Try.underlying3 g1
  obtain rfl : c1 = _ := by simpa using e1
  obtain ⟨n2, y2, g2, l2⟩ := part1 Try.underlying49 h hL 2 rfl (by kernel_rfl) (u := c2) rfl
  obtain ⟨a2, e2, _, w2⟩ := DataW.trod_int Try.underlying5 g2
  obtain rfl : c2 = _ := by simpa using e2
  obtain ⟨n3, y3, g3, l3⟩ := part1 Try.underlying49 h hL 3 rfl (by kernel_rfl) (u := c3) rfl
  obtain ⟨a3, e3, _, w3⟩ := DataW.trod_int Try.underlying5 g3
  obtain rfl : c3 = _ := by simpa using e3
  obtain ⟨n4, y4, g4, l4⟩ := partN Try.underlying49 h hL 4 rfl (k := 10) (by kernel_rfl) (ds := [c4, c5, c6, c7, c8, c9, c10, c11, c12, c13]) rfl
  obtain ⟨m, pv, e4, hr, h1, h2, h3, h4, h5, h6, h7, h8, h9, h10, h11⟩ := want_of _ _ _ g4 rfl l4
  obtain ⟨m0, rfl, hm0⟩ := nat8 ⟨(wf_u8 w0).1, (wf_u8 w0).2⟩
  obtain ⟨m2, rfl, hm2⟩ := nat8 ⟨(wf_u8 w2).1, (wf_u8 w2).2⟩
  obtain ⟨m3, rfl, hm3⟩ := nat8 ⟨(wf_u8 w3).1, (wf_u8 w3).2⟩
  refine ⟨⟨m0, a1, m2, m3, m⟩, ⟨pv, ?_, rdk_of hr, fun _ _ _ => trivial⟩, ⟨hm0, ⟨(wf_i64 w1).1, by have := (wf_i64 w1).2; omega⟩, hm2, hm3, h1, h2, h3, h4, h5, h6, h7, h8, h9, h10, h11⟩⟩
  rw [e4]
  rfl
theorem asks_of (fuel : Nat) (cs : List Value) (y : DataW H × List MemPlace) (h : DataW.trod enc Try.prog w base (fun _ => true) held fuel 23 cs = some y) (hL : Light Try.prog 23 y.1) :
    ∃ v, cs = [v] ∧ ∃ xs, RdE 14 EAsk w (fun _ => True) v xs ∧ xs.length ≤ 140737488355328 ∧ ∀ x ∈ xs, WfA x := by
  obtain ⟨v, e, xs, h1, h2, h3⟩ := rdnOf EAsk WfA Try.underlying23 (e := 49) (n := 14) (by kernel_rfl) (by decide) (of_decide_eq_true (by kernel_rfl)) h hL (fun fuel cs x h hl hL => ask_of fuel cs x h hl hL)
  exact ⟨v, e, xs, h1, Nat.le_trans h2 reach_le, h3⟩
end
end Go.Proofs.Ytkfohickmdkplaa

namespace Go.Proofs.Own
open Go Go.RowKit
theorem run_setRowT {w : World} {g : Nat} {old cs : Array Value} {t : TypeId} (hg : w.heap[g]? = some (.cells old t)) : Upd (fun k => k = g) w (w.setRow g cs) ∧ (w.setRow g cs).heap[g]? = some (.cells cs t) := by
  refine ⟨⟨rfl, rfl, rfl, ?_, ?_⟩, setRow_heap w g old cs t (0, 0) hg⟩
  · unfold World.setRow
    simp
  · intro k _ hn
    unfold World.setRow
    simp only [Array.getElem?_modify]
    rw [if_neg (fun e => hn e.symm)]
theorem step_storeT {P : Program} {ops : Array Oper} {o : Oper} {a : Act} {Q : Exit → Act → World → Prop} {w : World} {K : Act → World → Prop} {E : Prop} (ty : TypeId) (x y : Operand) (hwt : Region.wanted o (yielded ops a.tmps) = true) (ho : o.op = .store ty x y)
    (g : Nat) (cs : Array Value) (hx : a.eval x = .pointer (some ⟨g, 0, none⟩)) (hy : a.eval y = .agg cs)
    (t : TypeId) (old : Array Value) (hg : w.heap[g]? = some (.cells old t (0, 0))) (hi : (P.info? ty).map (·.size) = some cs.size)
    (hold : old.size = cs.size) (h1 : cs.all (·.oneCell') = true)
    (h : K (a.put o.dst undef) (w.setRow g cs)) : if Region.wanted o (yielded ops a.tmps) = true then Oper.wp P o a w K Q else E := by
  rw [if_pos hwt]
  exact wp_store_row ty x y ho g cs hx hy t old hg hi hold h1 h
theorem allocRow {K : Act → World → Prop} {a : Act} {S W : World} {cs : Array Value} {t : TypeId} (hn : New S W)
    (h : ∀ W2, New W W2 → New S W2 → W2.heap[W.heap.size]? = some (.cells cs t) → K a W2) : K a (W.alloc (.cells cs t)) :=
  h _ ((Upd.refl _ _).alloc _) (hn.alloc _) (hp_new rfl)
end Go.Proofs.Own

namespace Go.Proofs.Ytkfohickmdkplaa
open Go.RowKit Go.Proofs.Leb Go.Proofs.Own Go.Proofs.Cur Go.Proofs.Span
set_option maxRecDepth 100000
set_option maxHeartbeats 4000000

structure FineA (a : AskM) : Prop where
  beh : Span.right a.x.b1 a.x.b2
  want : a.doo % 6 = 1 → 0 ≤ a.x.kind ∧ a.x.kind ≤ 3 ∧ Span.item a.x.i1 a.x.i2 ∧ Span.right a.x.o1 a.x.o2 ∧ a.x.picks.length ≤ 20 ∧ ∀ y ∈ a.x.picks, Span.right y.2.1 y.2.2
  sign : a.doo % 6 = 2 → 1 ≤ a.n ∧ a.n ≤ 64

def FineP (l : List AskM) (w : World) (e : Ending) (w' : World) : Prop := ∃ c, e = .returned (.bool c) ∧ New w w' ∧ (c = true → l.length ≤ 30 ∧ ∀ a ∈ l, FineA a)
theorem FineP.no {l : List AskM} {w : World} {e : Ending} {w' : World} (h : e = .returned (.bool false)) (hn : New w w') : FineP l w e w' := ⟨false, h, hn, fun h => by cases h⟩
theorem FineP.yes {l : List AskM} {w : World} {e : Ending} {w' : World} (h : e = .returned (.bool true)) (hn : New w w') (hl : l.length ≤ 30) (ha : ∀ a ∈ l, FineA a) : FineP l w e w' := ⟨true, h, hn, fun _ => ⟨hl, ha⟩⟩
theorem Fine_any (v : Value) (l : List AskM) (B : Nat → Prop) (w : World) (hr : RdE 14 EAsk w B v l) (hw : ∀ a ∈ l, WfA a) (hl : l.length ≤ 140737488355328) :
    Calls Try.prog 5 #[v] w (FineP l w) := by
  have HR := hid hr
  have HW := hid hw
  have HRI := hid right_any
  obtain ⟨av, cv, rfl⟩ := hr.shape
  clear hr hw
  go_enter Try.func5, Try.ntmps5
  go_wp2_with fail
  go_loopg [3] 31 (fun k a wr => ∃ i : Nat, k = 31 - i ∧ a = .int .i64 i ∧ i ≤ l.length ∧ i ≤ 31 ∧ New w wr ∧ ∀ j (_ : j < i) (hj : j < l.length), FineA l[j])
  case atStart => exact ⟨0, rfl, rfl, Nat.zero_le _, by omega, Upd.refl _ _, fun j h => absurd h (Nat.not_lt_zero _)⟩
  case round =>
    obtain ⟨i, rfl, rfl, hi1, hi2, hw, hbefore⟩ := hrel
    have HWW := hid hw
    have HB := hid hbefore
    clear hw hbefore
    by_cases hlt : i < l.length
    · by_cases h30 : (i : Int) ≤ 30
      · obtain ⟨_, _, e, hat⟩ := HR.out.at
        obtain ⟨b, o, row, rfl, hlen, ⟨pv, rfl, hpk, -⟩, hc⟩ := hat i hlt
        cases e
        obtain ⟨pa, pc, rfl⟩ := hpk.shape
        have HWF := hid (HW.out l[i] (List.getElem_mem _))
        obtain ⟨a, ha⟩ : ∃ a, l[i] = a := ⟨_, rfl⟩
        have HA := hid ha
        rw [ha] at hc hpk HWF
        have HP := hid hpk
        clear hpk
        have HC : Hid (∀ W, New wr W → ∀ j u, (rowA a (.slice pa a.x.picks.length pc))[j]? = some u → W.cell? ⟨b, o + i * 14 + j, none⟩ = some u) := fun W hW j u hj => (New.trans HWW.out hW).cell (hc j u (by simpa using hj)) (fun h => h)
        have HC4 : Hid (∀ W, New wr W → ∀ j u, (valW a.x (.slice pa a.x.picks.length pc))[j]? = some u → W.cell? ⟨b, o + i * 14 + 4 + j, none⟩ = some u) := fun W hW j u hj => by
          have := HC.out W hW (4 + j) u (by unfold rowA; rw [Array.getElem?_append_right (by simp)]; simpa using hj)
          rw [← Nat.add_assoc] at this
          exact this
        have HC0 : Hid (∀ W, New wr W → W.cell? ⟨b, o + i * 14, none⟩ = some (.int .u8 a.doo)) := fun W hW => HC.out W hW 0 _ rfl
        clear ha hat hc hlen
        have hn : New wr wr.drew := (Upd.refl _ _).drew
        obtain ⟨d, hd⟩ : ∃ d : Nat, a.doo % 6 = d := ⟨_, rfl⟩
        have ed : (a.doo : Int).tmod 6 = (d : Int) := by rw [Int.tmod_eq_emod_of_nonneg (Int.natCast_nonneg _)]; omega
        have HD := hid hd
        clear hd
        go_upto_region 4 with fail
        refine wp_region_noPanic ?_
        refine wp_region_held_drew (S := (New wr)) (by kernel_rfl) (by first | exact hn | exact (Upd.refl _ _).drew | exact Upd.drew (by assumption)) (fun hn => ?_)
        generalize wr.drew = wd at *
        refine wpAnyH_take (i := 0) (oi := { dst := some 17, op := Op.move (Operand.tmp 0), type := 23, pos := "law.go:24", after := #[], guard := none }) (v := ?v20x1) rfl (by kernel_rfl) (by kernel_rfl) (by kernel_rfl) (fun _ _ _ h => h) (Or.inl ⟨by rfl, ?y20x1⟩) hn ?r20x1
        case y20x1 => (intro wS hS; (try go_simp); (try with_reducible rfl))
        try simp only [Act.put, List.setIfInBounds_toArray, List.set_cons_zero, List.set_cons_succ]
        refine wpAnyH_take (i := 1) (oi := { dst := some 18, op := Op.move (Operand.tmp 3), type := 3, pos := "law.go:24", after := #[], guard := none }) (v := ?v20x2) rfl (by kernel_rfl) (by kernel_rfl) (by kernel_rfl) (fun _ _ _ h => h) (Or.inl ⟨by rfl, ?y20x2⟩) hn ?r20x2
        case y20x2 => (intro wS hS; (try go_simp); (try with_reducible rfl))
        try simp only [Act.put, List.setIfInBounds_toArray, List.set_cons_zero, List.set_cons_succ]
        refine wpAnyH_take (i := 2) (oi := { dst := some 19, op := Op.indexAddr 23 (Operand.tmp 17) (Operand.tmp 18), type := 0, pos := "law.go:24", after := #[{ on := 0, ground := Ground.data }, { on := 1, ground := Ground.data }], guard := none }) (v := ?v20x3) rfl (by kernel_rfl) (by kernel_rfl) (by kernel_rfl) (fun _ _ _ h => h) (Or.inl ⟨by rfl, ?y20x3⟩) hn ?r20x3
        case y20x3 => (intro wS hS; (try go_simp); (try with_reducible rfl))
        try simp only [Act.put, List.setIfInBounds_toArray, List.set_cons_zero, List.set_cons_succ]
        refine wpAnyH_take (i := 3) (oi := { dst := some 20, op := Op.fieldAddr 49 (Operand.tmp 19) 4, type := 0, pos := "law.go:24", after := #[{ on := 2, ground := Ground.data }], guard := none }) (v := ?v20x4) rfl (by kernel_rfl) (by kernel_rfl) (by kernel_rfl) (fun _ _ _ h => h) (Or.inl ⟨by rfl, ?y20x4⟩) hn ?r20x4
        case y20x4 => (intro wS hS; (try go_simp); (try with_reducible rfl))
        try simp only [Act.put, List.setIfInBounds_toArray, List.set_cons_zero, List.set_cons_succ]
        refine wpAnyH_take (i := 4) (oi := { dst := some 21, op := Op.load 47 (Operand.tmp 20), type := 47, pos := "law.go:24", after := #[{ on := 3, ground := Ground.data }], guard := none }) (v := ?v20x5) rfl (by kernel_rfl) (by kernel_rfl) (by kernel_rfl) (fun _ _ _ h => h) (Or.inl ⟨by rfl, ?y20x5⟩) hn ?r20x5
        case y20x5 => (intro wS hS; rw [load_at (cs := valW a.x (.slice pa a.x.picks.length pc)) (b := b) (off := o + i * 14 + 4) rfl rfl (HC4.out _ hS) Try.underlying47 rfl infoW]; (try go_simp); (try with_reducible rfl))
        try simp only [Act.put, List.setIfInBounds_toArray, List.set_cons_zero, List.set_cons_succ]
        refine wpAnyH_take (i := 5) (oi := { dst := some 22, op := Op.move (Operand.tmp 0), type := 23, pos := "law.go:24", after := #[{ on := 12, ground := Ground.gcOnly Departure.lateStores }], guard := none }) (v := ?v20x6) rfl (by kernel_rfl) (by kernel_rfl) (by kernel_rfl) (fun _ _ _ h => h) (Or.inl ⟨by rfl, ?y20x6⟩) hn ?r20x6
        case y20x6 => (intro wS hS; (try go_simp); (try with_reducible rfl))
        try simp only [Act.put, List.setIfInBounds_toArray, List.set_cons_zero, List.set_cons_succ]
        refine wpAnyH_take (i := 6) (oi := { dst := some 23, op := Op.move (Operand.tmp 3), type := 3, pos := "law.go:24", after := #[{ on := 12, ground := Ground.gcOnly Departure.lateStores }], guard := none }) (v := ?v20x7) rfl (by kernel_rfl) (by kernel_rfl) (by kernel_rfl) (fun _ _ _ h => h) (Or.inl ⟨by rfl, ?y20x7⟩) hn ?r20x7
        case y20x7 => (intro wS hS; (try go_simp); (try with_reducible rfl))
        try simp only [Act.put, List.setIfInBounds_toArray, List.set_cons_zero, List.set_cons_succ]
        refine wpAnyH_take (i := 7) (oi := { dst := some 24, op := Op.indexAddr 23 (Operand.tmp 22) (Operand.tmp 23), type := 0, pos := "law.go:24", after := #[{ on := 5, ground := Ground.data }, { on := 6, ground := Ground.data }, { on := 12, ground := Ground.gcOnly Departure.lateStores }], guard := none }) (v := ?v20x8) rfl (by kernel_rfl) (by kernel_rfl) (by kernel_rfl) (fun _ _ _ h => h) (Or.inl ⟨by rfl, ?y20x8⟩) hn ?r20x8
        case y20x8 => (intro wS hS; (try go_simp); (try with_reducible rfl))
        try simp only [Act.put, List.setIfInBounds_toArray, List.set_cons_zero, List.set_cons_succ]
        refine wpAnyH_take (i := 8) (oi := { dst := some 25, op := Op.fieldAddr 49 (Operand.tmp 24) 0, type := 0, pos := "law.go:24", after := #[{ on := 7, ground := Ground.data }, { on := 12, ground := Ground.gcOnly Departure.lateStores }], guard := none }) (v := ?v20x9) rfl (by kernel_rfl) (by kernel_rfl) (by kernel_rfl) (fun _ _ _ h => h) (Or.inl ⟨by rfl, ?y20x9⟩) hn ?r20x9
        case y20x9 => (intro wS hS; (try go_simp); (try with_reducible rfl))
        try simp only [Act.put, List.setIfInBounds_toArray, List.set_cons_zero, List.set_cons_succ]
        refine wpAnyH_take (i := 9) (oi := { dst := some 26, op := Op.load 5 (Operand.tmp 25), type := 5, pos := "law.go:24", after := #[{ on := 8, ground := Ground.data }, { on := 12, ground := Ground.gcOnly Departure.lateStores }], guard := none }) (v := ?v20x10) rfl (by kernel_rfl) (by kernel_rfl) (by kernel_rfl) (fun _ _ _ h => h) (Or.inl ⟨by rfl, ?y20x10⟩) hn ?r20x10
        case y20x10 => (intro wS hS; have c0 := HC0.out _ hS; (try go_simp); (try with_reducible rfl))
        try simp only [Act.put, List.setIfInBounds_toArray, List.set_cons_zero, List.set_cons_succ]
        refine wpAnyH_take (i := 10) (oi := { dst := some 27, op := Op.binOp BinOp.rem 5 (Operand.tmp 26) (Operand.const (Value.int IntKind.u8 6)) 5, type := 5, pos := "law.go:24", after := #[{ on := 9, ground := Ground.data }, { on := 12, ground := Ground.gcOnly Departure.lateStores }], guard := none }) (v := ?v20x11) rfl (by kernel_rfl) (by kernel_rfl) (by kernel_rfl) (fun _ _ _ h => h) (Or.inl ⟨by rfl, ?y20x11⟩) hn ?r20x11
        case y20x11 => (intro wS hS; (try go_simp); (try with_reducible rfl))
        try simp only [Act.put, List.setIfInBounds_toArray, List.set_cons_zero, List.set_cons_succ]
        refine wpAnyH_ready (rs := [11]) (by kernel_rfl) (by simp) ?_
        refine AllReadyH.cons (o := { dst := some 4, op := Op.alloc 47, type := 0, pos := "law.go:24", after := #[], guard := none }) rfl (fun K hK => ?_) AllReadyH.nil
        go_simp
        refine absN hn ?_ hn.size
        intro g hg hgf
        rw [hg] at hgf ⊢
        refine allocRow hn ?_
        intro W2 hu hn hz
        rw [hg] at hz
        clear hg hu
        refine hK.out _ _ (by first | exact hn | exact Upd.alloc hn _) (fun hn => ?_)
        clear hK K
        try simp only [Act.put, List.setIfInBounds_toArray, List.set_cons_zero, List.set_cons_succ]
        refine wpAnyH_ready (rs := [12]) (by kernel_rfl) (by simp) ?_
        refine AllReadyH.cons (o := { dst := none, op := Op.store 47 (Operand.tmp 4) (Operand.tmp 21), type := 0, pos := "law.go:24", after := #[{ on := 11, ground := Ground.data }, { on := 4, ground := Ground.data }, { on := 0, ground := Ground.phase }, { on := 1, ground := Ground.phase }, { on := 2, ground := Ground.phase }, { on := 3, ground := Ground.phase }, { on := 4, ground := Ground.phase }, { on := 5, ground := Ground.textOnly Departure.lateStores }, { on := 6, ground := Ground.textOnly Departure.lateStores }, { on := 7, ground := Ground.textOnly Departure.lateStores }, { on := 8, ground := Ground.textOnly Departure.lateStores }, { on := 9, ground := Ground.textOnly Departure.lateStores }, { on := 10, ground := Ground.textOnly Departure.lateStores }, { on := 11, ground := Ground.phase }], guard := none }) rfl (fun K hK => ?_) AllReadyH.nil
        refine step_storeT 47 _ _ rfl rfl g (valW a.x (.slice pa a.x.picks.length pc)) rfl rfl 47 _ hz infoW rfl (by simp [valW, Value.oneCell']) ?_
        obtain ⟨hus, hbs⟩ := run_setRowT (cs := valW a.x (.slice pa a.x.picks.length pc)) hz
        have hn := Upd.trans (S := fun _ => False) hn hus (fun k hk e => by omega)
        refine hK.out _ _ (by first | exact hn | exact Upd.alloc hn _) (fun hn => ?_)
        clear hK K
        try simp only [Act.put, List.setIfInBounds_toArray, List.set_cons_zero, List.set_cons_succ]
        refine wpAnyH_take (i := 13) (oi := { dst := some 5, op := Op.assign (Operand.tmp 27), type := 5, pos := "law.go:24", after := #[{ on := 10, ground := Ground.data }, { on := 12, ground := Ground.chain }, { on := 0, ground := Ground.phase }, { on := 1, ground := Ground.phase }, { on := 2, ground := Ground.phase }, { on := 3, ground := Ground.phase }, { on := 4, ground := Ground.phase }, { on := 5, ground := Ground.phase }, { on := 6, ground := Ground.phase }, { on := 7, ground := Ground.phase }, { on := 8, ground := Ground.phase }, { on := 9, ground := Ground.phase }, { on := 10, ground := Ground.phase }, { on := 11, ground := Ground.phase }, { on := 12, ground := Ground.phase }], guard := none }) (v := ?v20x12) rfl (by kernel_rfl) (by kernel_rfl) (by kernel_rfl) (fun _ _ _ h => h) (Or.inl ⟨by rfl, ?y20x12⟩) hn ?r20x12
        case y20x12 => (intro wS hS; (try go_simp); (try with_reducible rfl))
        try simp only [Act.put, List.setIfInBounds_toArray, List.set_cons_zero, List.set_cons_succ]
        refine wpAnyH_done (by kernel_rfl) ?_ _
        refine NoPanic.normal ?_
        generalize W2.setRow g (valW a.x (.slice pa a.x.picks.length pc)) = w3 at *
        have HN3 := hid hn
        have HPK : Hid (∀ W, New w3 W → RdK W (.slice pa a.x.picks.length pc) a.x.picks) := fun W hW => HP.out.new (New.trans (New.trans HWW.out HN3.out) hW)
        have HN0 := hid (New.trans HWW.out hn)
        clear hus hz hn ed
        obtain ⟨⟨kind, lo, hi, i1, i2, o1, o2, b1, b2, ps⟩, hx⟩ : ∃ x : Wnt, a.x = x := ⟨_, rfl⟩
        have HXX := hid hx
        rw [hx] at hbs HPK
        have hbl : a.x.picks.length = ps.length := by rw [hx]
        simp only at HPK
        unfold valW at hbs
        simp only at hbs
        have HG : Hid (∀ W, New w3 W → W.heap[g]? = some (.cells #[.int .i64 kind, .int .u64 lo, .int .u64 hi, .int .i64 i1, .int .i64 i2, .int .i64 o1, .int .i64 o2, .int .i64 b1, .int .i64 b2, .slice pa ps.length pc] 47)) := fun W hW => (hW.block g (Array.getElem?_eq_some_iff.1 hbs).1 (fun h => h)).trans hbs
        have CELL : Hid (∀ W, New w3 W → ∀ j u, #[Value.int .i64 kind, .int .u64 lo, .int .u64 hi, .int .i64 i1, .int .i64 i2, .int .i64 o1, .int .i64 o2, .int .i64 b1, .int .i64 b2, .slice pa ps.length pc][j]? = some u → W.cell? ⟨g, j, none⟩ = some u) := fun W hW j u hj => by rw [cell_of_row _ g j _ _ (0, 0) (HG.out W hW)]; exact hj
        clear hbs hbl hx
        have HIT := hid ritem_any
        go_upto_region 5 with fail
        go_cut [63] (fun v wx => New w3 wx ∧ ∃ c, v = .bool c ∧ (c = false → Span.right b1 b2 ∧ (d = 1 → 0 ≤ kind ∧ kind ≤ 3 ∧ Span.item i1 i2 ∧ Span.right o1 o2 ∧ ps.length ≤ 20)))
        case first =>
          have c0 : w3.cell? ⟨g, 0, none⟩ = some (.int .i64 kind) := CELL.out _ (Upd.refl _ _) 0 _ rfl
          have c3 : w3.cell? ⟨g, 3, none⟩ = some (.int .i64 i1) := CELL.out _ (Upd.refl _ _) 3 _ rfl
          have c4 : w3.cell? ⟨g, 4, none⟩ = some (.int .i64 i2) := CELL.out _ (Upd.refl _ _) 4 _ rfl
          have C56 : Hid (∀ W, New w3 W → W.cell? ⟨g, 5, none⟩ = some (.int .i64 o1) ∧ W.cell? ⟨g, 6, none⟩ = some (.int .i64 o2)) := fun W hW => ⟨CELL.out _ hW 5 _ rfl, CELL.out _ hW 6 _ rfl⟩
          have C78 : Hid (∀ W, New w3 W → W.cell? ⟨g, 7, none⟩ = some (.int .i64 b1) ∧ W.cell? ⟨g, 8, none⟩ = some (.int .i64 b2)) := fun W hW => ⟨CELL.out _ hW 7 _ rfl, CELL.out _ hW 8 _ rfl⟩
          have C9 : Hid (∀ W, New w3 W → W.cell? ⟨g, 9, none⟩ = some (.slice pa ps.length pc)) := fun W hW => CELL.out _ hW 9 _ rfl
          have HR0 : Hid (New w3 w3) := Upd.refl _ _
          have HQ1 := hid (fun W => (HRI.out b1 b2 W).mono (R' := fun e w' => e = .returned (.bool (rightB b1 b2)) ∧ New W w') (by rintro e w' ⟨rfl, rfl⟩; exact ⟨rfl, (Upd.refl _ _).alloc _⟩))
          have HQ2 := hid (fun W => (HRI.out o1 o2 W).mono (R' := fun e w' => e = .returned (.bool (rightB o1 o2)) ∧ New W w') (by rintro e w' ⟨rfl, rfl⟩; exact ⟨rfl, (Upd.refl _ _).alloc _⟩))
          have HQ3 := hid (fun W => HIT.out i1 i2 W)
          obtain ⟨q1, hq1⟩ : ∃ q, rightB b1 b2 = q := ⟨_, rfl⟩
          obtain ⟨q2, hq2⟩ : ∃ q, rightB o1 o2 = q := ⟨_, rfl⟩
          obtain ⟨q3, hq3⟩ : ∃ q, itemB i1 i2 = q := ⟨_, rfl⟩
          have HE1 := hid hq1
          have HE2 := hid hq2
          have HE3 := hid hq3
          rw [hq1] at HQ1
          rw [hq2] at HQ2
          rw [hq3] at HQ3
          clear hq1 hq2 hq3
          by_cases hd1 : d = 1
          · subst hd1
            by_cases k0 : kind < 0
            · go_wp2_with fail
              go_meet
              exact ⟨HR0.out, true, rfl, fun h => by cases h⟩
            · by_cases k3 : 3 < kind
              · go_wp2_with fail
                go_meet
                exact ⟨HR0.out, true, rfl, fun h => by cases h⟩
              · cases q3 with
                | false =>
                  go_wp2_with fail
                  refine (HQ3.out _).mono ?_
                  rintro e w4 ⟨rfl, hn4⟩
                  have HN4 := hid hn4
                  clear hn4
                  go_wp2_with fail
                  go_meet
                  exact ⟨HN4.out, true, rfl, fun h => by cases h⟩
                | true =>
                  go_wp2_with fail
                  refine (HQ3.out _).mono ?_
                  rintro e w4 ⟨rfl, hn4⟩
                  have HN4 := hid hn4
                  clear hn4
                  have c5 := (C56.out _ HN4.out).1
                  have c6 := (C56.out _ HN4.out).2
                  cases q2 with
                  | false =>
                    go_wp2_with fail
                    refine (HQ2.out _).mono ?_
                    rintro e w5 ⟨rfl, hn5⟩
                    have HN5 := hid (New.trans HN4.out hn5)
                    clear hn5
                    go_wp2_with fail
                    go_meet
                    exact ⟨HN5.out, true, rfl, fun h => by cases h⟩
                  | true =>
                    go_wp2_with fail
                    refine (HQ2.out _).mono ?_
                    rintro e w5 ⟨rfl, hn5⟩
                    have HN5 := hid (New.trans HN4.out hn5)
                    clear hn5 c0 c3 c4 c5 c6
                    have c9 := C9.out _ HN5.out
                    by_cases k20 : (20 : Int) < ps.length
                    · go_wp2_with fail
                      go_meet
                      exact ⟨HN5.out, true, rfl, fun h => by cases h⟩
                    · have HK := hid (show ps.length ≤ 20 by omega)
                      have c7 := (C78.out _ HN5.out).1
                      have c8 := (C78.out _ HN5.out).2
                      cases q1 with
                      | true =>
                        go_wp2_with fail
                        refine (HQ1.out _).mono ?_
                        rintro e w6 ⟨rfl, hn6⟩
                        have HN6 := hid (New.trans HN5.out hn6)
                        clear hn6
                        go_wp2_with fail
                        go_meet
                        exact ⟨HN6.out, false, (by first | rfl | (rw [decide_eq_false (by have := HK.out; omega)])), fun _ => ⟨(rightB_iff _ _).1 HE1.out, fun _ => ⟨by omega, by omega, (itemB_iff _ _).1 HE3.out, (rightB_iff _ _).1 HE2.out, HK.out⟩⟩⟩
                      | false =>
                        go_wp2_with fail
                        refine (HQ1.out _).mono ?_
                        rintro e w6 ⟨rfl, hn6⟩
                        have HN6 := hid (New.trans HN5.out hn6)
                        clear hn6
                        go_wp2_with fail
                        go_meet
                        exact ⟨HN6.out, true, rfl, fun h => by cases h⟩
          · have hd2 : ((d : Int) == 1) = false := by rw [beq_eq_false_iff_ne]; omega
            have HD1 := hid hd1
            clear hd1
            have c7 := (C78.out _ HR0.out).1
            have c8 := (C78.out _ HR0.out).2
            cases q1 with
            | true =>
              go_wp2_with fail
              refine (HQ1.out _).mono ?_
              rintro e w6 ⟨rfl, hn6⟩
              have HN6 := hid (New.trans HR0.out hn6)
              clear hn6
              go_wp2_with fail
              go_meet
              exact ⟨HN6.out, false, (by first | rfl | (rw [decide_eq_false (by have := HK.out; omega)])), fun _ => ⟨(rightB_iff _ _).1 HE1.out, fun h => absurd h HD1.out⟩⟩
            | false =>
              go_wp2_with fail
              refine (HQ1.out _).mono ?_
              rintro e w6 ⟨rfl, hn6⟩
              have HN6 := hid (New.trans HR0.out hn6)
              clear hn6
              go_wp2_with fail
              go_meet
              exact ⟨HN6.out, true, rfl, fun h => by cases h⟩
        case rest =>
          obtain ⟨hn4, c, rfl, hcf⟩ := hcut
          have HN4 := hid hn4
          have HCF := hid hcf
          clear hn4 hcf
          cases c with
          | true =>
            go_wp2_with fail
            go_ret
            exact FineP.no rfl (New.trans HN0.out HN4.out)
          | false =>
            have HPD := hid (HPK.out _ HN4.out)
            have C9 : Hid (∀ W, New wc W → W.cell? ⟨g, 9, none⟩ = some (.slice pa ps.length pc)) := fun W hW => CELL.out _ (New.trans HN4.out hW) 9 _ rfl
            have CN : Hid (∀ W, New wc W → W.cell? ⟨b, o + i * 14 + 1, none⟩ = some (.int .i64 a.n)) := fun W hW => HC.out _ (New.trans HN3.out (New.trans HN4.out hW)) 1 _ rfl
            have FIN : Hid ((d = 1 → ∀ z (h : z < ps.length), Span.right ps[z].2.1 ps[z].2.2) → (d = 2 → 1 ≤ a.n ∧ a.n ≤ 64) → FineA a) := by
              intro g1 g2
              have hf := HCF.out rfl
              refine ⟨by rw [HXX.out]; exact hf.1, fun h => ?_, fun h => g2 (HD.out.symm.trans h)⟩
              have h1 : d = 1 := HD.out.symm.trans h
              have h2 := hf.2 h1
              rw [HXX.out]
              refine ⟨h2.1, h2.2.1, h2.2.2.1, h2.2.2.2.1, h2.2.2.2.2, fun y hy => ?_⟩
              obtain ⟨z, hz, rfl⟩ := List.mem_iff_getElem.mp hy
              exact g1 h1 z hz
            have hfew : ps.length ≤ 140737488355328 := by have := HWF.out.few; rw [HXX.out] at this; exact this
            by_cases hd1 : d = 1
            · subst hd1
              go_wp2_with fail
              go_loopg [6] ps.length (fun kk c wi => ∃ j : Nat, kk = ps.length - j ∧ c = .int .i64 j ∧ j ≤ ps.length ∧ New wc wi ∧ ∀ z (_ : z < j) (h : z < ps.length), Span.right ps[z].2.1 ps[z].2.2)
              case atStart => exact ⟨0, by simp, rfl, Nat.zero_le _, Upd.refl _ _, fun z h => absurd h (Nat.not_lt_zero _)⟩
              case round =>
                obtain ⟨j, rfl, rfl, hj, hwi, hbef⟩ := hrel
                have HWI := hid hwi
                have HBF := hid hbef
                have c9 := C9.out _ hwi
                clear hwi hbef
                by_cases hjl : j < ps.length
                · obtain ⟨_, _, e, _, _, hcell⟩ := HPD.out
                  obtain ⟨bl, of, rfl, hcl⟩ := hcell (by intro h; subst h; simp at hjl)
                  cases e
                  have d1 := HWI.out.cell (hcl j hjl).2.1 (fun h => h)
                  have d2 := HWI.out.cell (hcl j hjl).2.2 (fun h => h)
                  have HNX : Hid (Span.right ps[j].2.1 ps[j].2.2 → ∀ z (_ : z < j + 1) (h : z < ps.length), Span.right ps[z].2.1 ps[z].2.2) := by
                    intro h z h1 h2
                    rcases Nat.lt_or_ge z j with h3 | h3
                    · exact HBF.out z h3 h2
                    · have : z = j := by omega
                      subst this
                      exact h
                  have HH := hid (fun W => (HRI.out ps[j].2.1 ps[j].2.2 W).mono (R' := fun e w' => e = .returned (.bool (rightB ps[j].2.1 ps[j].2.2)) ∧ New W w') (by rintro e w' ⟨rfl, rfl⟩; exact ⟨rfl, (Upd.refl _ _).alloc _⟩))
                  obtain ⟨y1, hy1⟩ : ∃ y, ps[j].2.1 = y := ⟨_, rfl⟩
                  obtain ⟨y2, hy2⟩ : ∃ y, ps[j].2.2 = y := ⟨_, rfl⟩
                  rw [hy1] at d1 HNX HH
                  rw [hy2] at d2 HNX HH
                  obtain ⟨q, hq⟩ : ∃ q, rightB y1 y2 = q := ⟨_, rfl⟩
                  have HQ := hid hq
                  rw [hq] at HH
                  clear hy1 hy2 hcl hcell hq
                  cases q with
                  | false =>
                    go_wp2_with fail
                    refine (HH.out _).mono ?_
                    rintro e w6 ⟨rfl, hn6⟩
                    have HN6 := hid (New.trans HN0.out (New.trans HN4.out (New.trans HWI.out hn6)))
                    clear hn6
                    go_wp2_with fail
                    go_ret
                    exact FineP.no rfl (HN6.out)
                  | true =>
                    go_wp2_with fail
                    refine (HH.out _).mono ?_
                    rintro e w6 ⟨rfl, hn6⟩
                    have HN6 := hid (New.trans HWI.out hn6)
                    clear hn6
                    go_wp2_with fail
                    go_roundg (ps.length - (j + 1))
                    case measure => omega
                    case rel => exact ⟨j + 1, rfl, by go_num, by omega, HN6.out, HNX.out ((rightB_iff _ _).1 HQ.out)⟩
                · obtain rfl : j = ps.length := by omega
                  go_wp2_with fail
                  go_roundg (31 - (i + 1))
                  case measure => omega
                  case rel =>
                    refine ⟨i + 1, rfl, by go_num, by omega, by omega, New.trans HN0.out (New.trans HN4.out HWI.out), fun j h1 h2 => ?_⟩
                    rcases Nat.lt_or_ge j i with h3 | h3
                    · exact HB.out j h3 h2
                    · have : j = i := by omega
                      subst this
                      rw [HA.out]
                      exact FIN.out (fun _ z h => HBF.out z h h) (fun h => absurd h (by decide))
            · have hd1b : ((d : Int) == 1) = false := by rw [beq_eq_false_iff_ne]; omega
              have HD1 := hid hd1
              clear hd1
              go_wp2_with fail
              go_loopg [6] 1 (fun kk c wi => kk = 1 ∧ c = .int .i64 0 ∧ New wc wi)
              case atStart => exact ⟨rfl, rfl, Upd.refl _ _⟩
              case round =>
                obtain ⟨rfl, rfl, hwi⟩ := hrel
                have HWI := hid hwi
                have c9 := C9.out _ hwi
                have cn := CN.out _ hwi
                clear hwi
                obtain ⟨n, hn'⟩ : ∃ n, a.n = n := ⟨_, rfl⟩
                have HNN := hid hn'
                rw [hn'] at cn
                clear hn'
                by_cases hp : (0 : Int) < ps.length
                all_goals
                  by_cases hd2 : d = 2
                  · subst hd2
                    by_cases n1 : n < 1
                    · go_wp2_with fail
                      go_ret
                      exact FineP.no rfl (New.trans HN0.out (New.trans HN4.out HWI.out))
                    · by_cases n64 : 64 < n
                      · go_wp2_with fail
                        go_ret
                        exact FineP.no rfl (New.trans HN0.out (New.trans HN4.out HWI.out))
                      · have HNR := hid (show 1 ≤ n ∧ n ≤ 64 by omega)
                        go_wp2_with fail
                        go_roundg (31 - (i + 1))
                        case measure => omega
                        case rel =>
                          refine ⟨i + 1, rfl, by go_num, by omega, by omega, New.trans HN0.out (New.trans HN4.out HWI.out), fun j h1 h2 => ?_⟩
                          rcases Nat.lt_or_ge j i with h3 | h3
                          · exact HB.out j h3 h2
                          · have : j = i := by omega
                            subst this
                            rw [HA.out]
                            exact FIN.out (fun h => absurd h HD1.out) (fun _ => by rw [HNN.out]; exact HNR.out)
                  · have hd2b : ((d : Int) == 2) = false := by rw [beq_eq_false_iff_ne]; omega
                    have HD2 := hid hd2
                    clear hd2
                    go_wp2_with fail
                    go_roundg (31 - (i + 1))
                    case measure => omega
                    case rel =>
                      refine ⟨i + 1, rfl, by go_num, by omega, by omega, New.trans HN0.out (New.trans HN4.out HWI.out), fun j h1 h2 => ?_⟩
                      rcases Nat.lt_or_ge j i with h3 | h3
                      · exact HB.out j h3 h2
                      · have : j = i := by omega
                        subst this
                        rw [HA.out]
                        exact FIN.out (fun h => absurd h HD1.out) (fun h => absurd h HD2.out)
      · obtain rfl : i = 31 := by omega
        have hl30 : ¬ (l.length : Int) ≤ 30 := by omega
        go_wp2_with fail
        go_ret
        exact FineP.no rfl (HWW.out)
    · obtain rfl : i = l.length := by omega
      by_cases h30 : (l.length : Int) ≤ 30
      · have H30 := hid (show l.length ≤ 30 by omega)
        go_wp2_with fail
        go_ret
        refine FineP.yes rfl HWW.out H30.out fun a ha => ?_
        obtain ⟨j, hj, rfl⟩ := List.mem_iff_getElem.mp ha
        exact HB.out j hj hj
      · go_wp2_with fail
        go_ret
        exact FineP.no rfl (HWW.out)
end Go.Proofs.Ytkfohickmdkplaa

namespace Go.Proofs.Ytkfohickmdkplaa
open Go.RowKit Go.Proofs.Leb Go.Proofs.Own Go.Proofs.Cur Go.Proofs.Span
set_option maxRecDepth 100000

theorem numO_inv {bs : List UInt8} {lim : Int} {may : List UInt8 → UInt8 → Int → Prop} {n : Nat} {ds : List UInt8} {p : Nat} {ds' : List UInt8} {q : Nat} (hi : Inv bs.length lim p) (h : numO bs lim may n ds p = .ok ds' q) : Inv bs.length lim q := by
  obtain ⟨_, _, _, _, _, _, _, g, _, _⟩ := numO_ok h
  exact g hi
theorem nameL_inv {bs : List UInt8} {lim : Int} : ∀ (k : Nat) (cur : List UInt8) (p : Nat) {x : Unit} {q : Nat}, Inv bs.length lim p → nameL bs lim k cur p = .ok x q → Inv bs.length lim q
  | 0, cur, p, x, q, hi, h => by
    unfold nameL at h
    cases h
    exact hi
  | k + 1, cur, p, x, q, hi, h => by
    unfold nameL at h
    cases hb : byteO bs lim (fun x r => mayN (k + 1) cur x r) p with
    | up q' er => rw [hb] at h; cases h
    | ok y q' =>
      rw [hb] at h
      exact nameL_inv k _ q' (byteO_inv' hi hb) h
theorem bind_ok {α β : Type} {o : Out α} {f : α → Nat → Out β} {b : β} {q : Nat} (h : o.bind f = .ok b q) : ∃ a p, o = .ok a p ∧ f a p = .ok b q := by
  cases o with
  | ok a p => exact ⟨a, p, rfl, h⟩
  | up p e => cases h
theorem rawO_inv {bs : List UInt8} {lim n : Int} {p : Nat} {s : List UInt8} {q : Nat} (hi : Inv bs.length lim p) (h : rawO bs lim n p = .ok s q) : Inv bs.length lim q := by
  unfold rawO at h
  have h1 := hi.rest
  have h2 := hi.lim
  split at h
  · rename_i hm
    cases h
    refine ⟨by omega, hi.len, ?_⟩
    unfold rest at hm h1
    split at hm <;> split at h1 <;> omega
  · split at h <;> cases h
theorem askO_inv {bs : List UInt8} {lim : Int} {a : AskM} {p : Nat} {s : List UInt8} {q : Nat} (hi : Inv bs.length lim p) (h : askO bs lim a p = .ok s q) : Inv bs.length lim q := by
  unfold askO at h
  split at h
  · obtain ⟨x, r, e, h⟩ := bind_ok h
    cases h
    exact byteO_inv' hi e
  · split at h
    · obtain ⟨x, r, e, h⟩ := bind_ok h
      cases h
      exact numO_inv hi e
    · split at h
      · obtain ⟨x, r, e, h⟩ := bind_ok h
        cases h
        exact numO_inv hi e
      · split at h
        · exact rawO_inv hi h
        · unfold nameS at h
          obtain ⟨x, r, e, h⟩ := bind_ok h
          obtain ⟨y, r', e', h⟩ := bind_ok h
          cases h
          exact nameL_inv _ _ _ (numO_inv hi e) e'
theorem withinO_inv {bs : List UInt8} {lim n : Int} {p : Nat} {o : Out Unit} {q : Nat} (hi : Inv bs.length lim p) (ho : ∀ q, o = .ok () q → Inv bs.length (limO n lim p) q) (h : withinO (limO n lim p) o = .ok () q) : Inv bs.length lim q := by
  cases o with
  | up q' er => cases h
  | ok x q' =>
    unfold withinO at h
    simp only at h
    split at h
    · rename_i h0
      cases h
      have g := ho _ rfl
      have h1 := hi.rest
      have h2 := hi.lim
      have g2 := g.lim
      refine ⟨g.place, g.len, ?_⟩
      unfold limO at *
      unfold rest at *
      split at h0 <;> split at h1 <;> omega
    · cases h
theorem allO_inv {bs : List UInt8} : ∀ (l : List AskM) (lim : Int) (p : Nat) {q : Nat}, Inv bs.length lim p → (allO bs l lim p).2 = .ok () q → Inv bs.length lim q
  | [], lim, p, q, hi, h => by
    unfold allO at h
    cases h
    exact hi
  | a :: l, lim, p, q, hi, h => by
    unfold allO at h
    split at h
    · exact withinO_inv hi (fun q hq => allO_inv l _ p (limO_inv hi) hq) h
    · cases ha : askO bs lim a p with
      | up q' er => rw [ha] at h; cases h
      | ok s q' =>
        rw [ha] at h
        exact allO_inv l lim q' (askO_inv hi ha) h
theorem allO_len {bs : List UInt8} : ∀ (l : List AskM) (lim : Int) (p : Nat), (allO bs l lim p).1.length ≤ 3 * l.length
  | [], lim, p => by unfold allO; simp
  | a :: l, lim, p => by
    unfold allO
    split
    · have := allO_len (bs := bs) l (limO a.n lim p) p
      simp only [List.length_cons]
      omega
    · cases ha : askO bs lim a p with
      | up q' er => simp
      | ok s q' =>
        have := allO_len (bs := bs) l lim q'
        simp only [List.length_cons]
        omega
end Go.Proofs.Ytkfohickmdkplaa

namespace Go.Proofs.Own
open Go Go.RowKit
theorem RdE.tail {α : Type} {n : Nat} {E : ERep α} {w : World} {B : Nat → Prop} {b o cap : Nat} {xs : List α} (h : RdE n E w B (.slice (some ⟨b, o, none⟩) xs.length cap) xs) (i : Nat) (hi : i ≤ xs.length) :
    RdE n E w B (.slice (some ⟨b, o + i * n, none⟩) (xs.length - i) (cap - i)) (xs.drop i) := by
  obtain ⟨a, cap', e, h1, h2, h3, h4⟩ := h
  cases e
  refine ⟨some ⟨b, o + i * n, none⟩, cap - i, by simp, by simp; omega, (fun h => by cases h), ?_, fun hne => ⟨b, o + i * n, rfl, fun j hj => ?_⟩⟩
  · intro k hk
    cases hk
    exact h3 b rfl
  · have hj' : i + j < xs.length := by simp at hj; omega
    obtain ⟨b', o', e, hc⟩ := h4 (by intro hx; subst hx; simp at hj')
    cases e
    obtain ⟨row, r1, r2, r3⟩ := hc (i + j) hj'
    refine ⟨row, r1, by simpa using r2, fun k u hk => ?_⟩
    have := r3 k u hk
    have e2 : o + (i + j) * n + k = o + i * n + j * n + k := by rw [Nat.add_mul]; omega
    rw [e2] at this
    exact this
theorem RdE.empty {α : Type} {n : Nat} {E : ERep α} {w : World} {B : Nat → Prop} {b o cap : Nat} {xs : List α} (h : RdE n E w B (.slice (some ⟨b, o, none⟩) xs.length cap) xs) (o' c' : Nat) :
    RdE n E w B (.slice (some ⟨b, o', none⟩) 0 c') [] := by
  obtain ⟨a, cap', e, h1, h2, h3, h4⟩ := h
  cases e
  refine ⟨some ⟨b, o', none⟩, c', rfl, Nat.zero_le _, (fun h => by cases h), ?_, fun hne => absurd rfl hne⟩
  intro k hk
  cases hk
  exact h3 b rfl
end Go.Proofs.Own

namespace Go.Proofs.Ytkfohickmdkplaa
open Go.RowKit Go.Proofs.Leb Go.Proofs.Own Go.Proofs.Cur
set_option maxRecDepth 100000
set_option maxHeartbeats 4000000

theorem alike_ok (x b : Nat) : okS x b = true ↔ alike x b := by unfold okS alike; simp

theorem alike_any (x b : Nat) (w : World) (_ : x < 256) (h1 : 1 ≤ b) (h2 : b ≤ 7) : Calls Try.prog 56 #[.int .u8 x, .int .i64 b] w (Yes (alike x b) w) := by
  have H := hid (okS_int x b)
  have HA := hid (alike_ok x b)
  by_cases h0 : ((x : Int) / 2 ^ (b - 1)) = 0
  · have HT : Hid (okS x b = true) := by show okS x b = true; rw [← H.out, h0]; rfl
    go_enter Try.func56, Try.ntmps56
    go_wp2_with fail
    go_ret
    exact ⟨true, rfl, by rw [← HA.out, HT.out], Upd.refl _ _⟩
  · have hb0 : (((x : Int) / 2 ^ (b - 1)) == 0) = false := by simpa using h0
    have HH := H.out
    rw [hb0, Bool.false_or] at HH
    have HHH := hid HH
    clear HH h0
    go_enter Try.func56, Try.ntmps56
    go_wp2_with fail
    go_ret
    refine ⟨_, rfl, ?_, Upd.refl _ _⟩
    rw [← HA.out, ← HHH.out]

/-- what a digit of a number with a sign asks besides -/
def sgn (mn mx : Int) (bits k x : Nat) (more : Nat) (r : Int) : Prop := Span.has mn mx r = true ∧ (0 < more ∨ k < (bits - 1) / 7 ∨ alike x (bits - 7 * k))

theorem Sint11_any (more k bits x Bb Bk Bl Bx Bt : Nat) (mn mx r : Int) (w : World) (hm : more ≤ 10) (hk : k ≤ (bits - 1) / 7) (hb1 : 1 ≤ bits) (hb : bits ≤ 64) (hx : x < 256)
    (c0 : w.cell? ⟨Bb, 0, none⟩ = some (.int .i64 mn)) (c1 : w.cell? ⟨Bb, 1, none⟩ = some (.int .i64 mx)) (ck : w.cell? ⟨Bk, 0, none⟩ = some (.int .i64 k)) (cl : w.cell? ⟨Bl, 0, none⟩ = some (.int .i64 ((bits - 1) / 7 : Nat)))
    (cx : w.cell? ⟨Bx, 0, none⟩ = some (.int .u8 x)) (ct : w.cell? ⟨Bt, 0, none⟩ = some (.int .i64 bits)) :
    Calls Try.prog 54 #[.int .i64 more, .int .i64 r, .pointer (some ⟨Bb, 0, none⟩), .pointer (some ⟨Bk, 0, none⟩), .pointer (some ⟨Bl, 0, none⟩), .pointer (some ⟨Bx, 0, none⟩), .pointer (some ⟨Bt, 0, none⟩)] w (Yes (sgn mn mx bits k x more r) w) := by
  have HH := hid (fun w => has_any mn mx r w)
  obtain ⟨l, hl⟩ : ∃ l, (bits - 1) / 7 = l := ⟨_, rfl⟩
  have HS : Hid (sgn mn mx bits k x more r ↔ Span.has mn mx r = true ∧ (0 < more ∨ k < l ∨ alike x (bits - 7 * k))) := by show _ ↔ _; unfold sgn; rw [hl]
  obtain ⟨hb', hhb⟩ : ∃ b, Span.has mn mx r = b := ⟨_, rfl⟩
  rw [hhb] at HS HH
  rw [hl] at cl hk
  have HK := hid ck
  have HL := hid cl
  have HX := hid cx
  have HT := hid ct
  cases hb' with
  | false =>
    clear hhb
    go_enter Try.func54, Try.ntmps54
    go_wp2_with fail
    refine (HH.out _).mono ?_
    rintro e w1 ⟨rfl, hn⟩
    have HN := hid hn
    clear hn
    go_wp2_with fail
    go_ret
    exact ⟨false, rfl, by rw [HS.out]; simp, HN.out⟩
  | true =>
    have HC := hid (⟨ck, cl, cx, ct⟩ : _ ∧ _ ∧ _ ∧ _)
    have HB : Hid (bits - 7 * k = bits - 7 * k) := hid rfl
    by_cases h0 : (0 : Int) < more
    · clear hhb hl ck cl cx ct
      go_enter Try.func54, Try.ntmps54
      go_wp2_with fail
      refine (HH.out _).mono ?_
      rintro e w1 ⟨rfl, hn⟩
      have HN := hid hn
      clear hn
      go_wp2_with fail
      go_ret
      exact ⟨true, rfl, by rw [HS.out]; simp; omega, HN.out⟩
    · by_cases h1 : k < l
      · clear hhb hl ck cl cx ct
        go_enter Try.func54, Try.ntmps54
        go_wp2_with fail
        refine (HH.out _).mono ?_
        rintro e w1 ⟨rfl, hn⟩
        have HN := hid hn
        have ck := hn.cell HK.out (fun h => h)
        have cl := hn.cell HL.out (fun h => h)
        clear hn
        go_wp2_with fail
        go_ret
        exact ⟨true, rfl, by rw [HS.out]; simp; omega, HN.out⟩
      · have h2 : ¬ ((k : Int) < (l : Int)) := by omega
        obtain ⟨z, hz⟩ : ∃ z, bits - 7 * k = z := ⟨_, rfl⟩
        rw [hz] at HS
        have hzi : (bits : Int) - 7 * (k : Int) = (z : Int) := by omega
        have HA := hid (fun w => alike_any x z w hx (by omega) (by omega))
        have k1 : k ≤ 9 := by omega
        have HZ := hid hz
        clear hhb hl ck cl cx ct hz HB
        go_enter Try.func54, Try.ntmps54
        go_wp2_with fail
        refine (HH.out _).mono ?_
        rintro e w1 ⟨rfl, hn⟩
        have HN := hid hn
        have ck := hn.cell HK.out (fun h => h)
        have cl := hn.cell HL.out (fun h => h)
        have cx := hn.cell HX.out (fun h => h)
        have ct := hn.cell HT.out (fun h => h)
        clear hn
        go_wp2_with fail
        refine (HA.out _).mono ?_
        rintro e w2 ⟨b, rfl, hb, hn2⟩
        have HB := hid hb
        clear hb
        go_wp2_with fail
        go_ret
        refine ⟨b, rfl, ?_, New.trans HN.out hn2⟩
        rw [HS.out, HB.out]
        simp only [true_and]
        constructor
        · intro h; exact .inr (.inr h)
        · rintro (h | h | h)
          · omega
          · omega
          · exact h

theorem Sint1_any (bits Bb Bk Bl Bt : Nat) (ds : List UInt8) (x : UInt8) (mn mx r : Int) (w : World) (r0 : 0 ≤ r) (r1 : r ≤ 1099511627776) (hk : ds.length ≤ (bits - 1) / 7) (hb1 : 1 ≤ bits) (hb : bits ≤ 64)
    (c0 : w.cell? ⟨Bb, 0, none⟩ = some (.int .i64 mn)) (c1 : w.cell? ⟨Bb, 1, none⟩ = some (.int .i64 mx)) (ck : w.cell? ⟨Bk, 0, none⟩ = some (.int .i64 ds.length)) (cl : w.cell? ⟨Bl, 0, none⟩ = some (.int .i64 ((bits - 1) / 7 : Nat)))
    (ct : w.cell? ⟨Bt, 0, none⟩ = some (.int .i64 bits)) :
    Calls Try.prog 53 #[cb x, .int .i64 r, .pointer (some ⟨Bl, 0, none⟩), .pointer (some ⟨Bk, 0, none⟩), .pointer (some ⟨Bb, 0, none⟩), .pointer (some ⟨Bt, 0, none⟩)] w
      (Yes (mayS (fun r => Span.has mn mx r = true) bits ds x r) w) := by
  obtain ⟨k, hkk⟩ : ∃ k, ds.length = k := ⟨_, rfl⟩
  obtain ⟨l, hl⟩ : ∃ l, (bits - 1) / 7 = l := ⟨_, rfl⟩
  have HMS : Hid (mayS (fun r => Span.has mn mx r = true) bits ds x r ↔ comes (sgn mn mx bits k x.toNat) x.toNat (l - k) r) := by
    show _ ↔ _
    unfold mayS sgn
    rw [hkk, hl]
  rw [hkk, hl] at hk
  rw [hkk] at ck
  have hx := u8_lt x
  have hn0 : New w (w.alloc (.cells #[.int .u8 x.toNat] 5)) := (Upd.refl _ _).alloc _
  have hx0 : One1 (w.alloc (.cells #[.int .u8 x.toNat] 5)) w.heap.size (.int .u8 x.toNat) := .mk rfl
  have HC := hid (comes_any x.toNat (l - k) r 54 #[.pointer (some ⟨Bb, 0, none⟩), .pointer (some ⟨Bk, 0, none⟩), .pointer (some ⟨Bl, 0, none⟩), .pointer (some ⟨w.heap.size, 0, none⟩), .pointer (some ⟨Bt, 0, none⟩)] (fun _ _ => rfl)
    (sgn mn mx bits k x.toNat) (w.alloc (.cells #[.int .u8 x.toNat] 5)) hx (by omega) r0 r1
    (fun j r' w2 hn2 hj hr0 hr1 _ => Sint11_any j k bits x.toNat Bb Bk Bl w.heap.size Bt mn mx r' w2 (by omega) (by rw [hl]; exact hk) hb1 hb hx ((hn0.trans hn2).cell c0 (fun h => h)) ((hn0.trans hn2).cell c1 (fun h => h))
      ((hn0.trans hn2).cell ck (fun h => h)) ((hn0.trans hn2).cell cl (fun h => h)) (hx0.new hn2).c ((hn0.trans hn2).cell ct (fun h => h))))
  have e4 : (l : Int) - (k : Int) = ((l - k : Nat) : Int) := by omega
  have ck2 := hn0.cell ck (fun h => h)
  have cl2 := hn0.cell cl (fun h => h)
  rw [hl] at cl2
  have cx2 := hx0.c
  have HN0 := hid hn0
  have l64 : l ≤ 9 := by omega
  have HL := hid hl
  clear c0 c1 ck cl ct hkk hl hn0 hx0
  unfold cb
  go_enter Try.func53, Try.ntmps53
  go_wp2_with fail
  refine HC.out.mono ?_
  rintro e w2 ⟨b, rfl, hb, hn2⟩
  have HB := hid hb
  clear hb
  go_wp2_with fail
  go_ret
  exact ⟨b, rfl, HB.out.trans HMS.out.symm, New.trans HN0.out hn2⟩
end Go.Proofs.Ytkfohickmdkplaa

namespace Go.Proofs.Ytkfohickmdkplaa
open Go.RowKit Go.Proofs.Leb Go.Proofs.Own
set_option maxRecDepth 100000
set_option maxHeartbeats 2000000

/-- the parts of what digits comes to, and of what U and S come to -/
def dV (ok : Nat → Nat → Bool) (bs : List UInt8) (wd : Nat) : Nat := if (scan ok bs wd).2 = 0 then vm (bs.take (scan ok bs wd).1) else 0
def dN (ok : Nat → Nat → Bool) (bs : List UInt8) (wd : Nat) : Nat := (scan ok bs wd).1
def dE (ok : Nat → Nat → Bool) (bs : List UInt8) (wd : Nat) : Nat := (scan ok bs wd).2
def uV (bs : List UInt8) (wd : Nat) : Nat := (decU bs wd).1
def sV (bs : List UInt8) (wd : Nat) : Int := (decS bs wd).1

theorem clamp_bd (n : Int) : 1 ≤ clamp n ∧ clamp n ≤ 64 := by unfold clamp; omega
theorem dE_le (ok : Nat → Nat → Bool) (bs : List UInt8) (wd : Nat) : dE ok bs wd ≤ 2 := by
  unfold dE scan; split
  · split
    · split <;> simp
    · simp
  · simp
theorem dN_le (ok : Nat → Nat → Bool) (bs : List UInt8) (wd : Nat) (h : 1 ≤ wd) (h2 : wd ≤ 64) : dN ok bs wd ≤ 10 ∧ (dE ok bs wd = 0 → 1 ≤ dN ok bs wd) := by
  have := stop_le bs
  have hm : most wd ≤ 10 := by unfold most; omega
  unfold dN dE scan; split
  · split
    · split <;> simp <;> omega
    · simp; omega
  · simp; omega

theorem dV_U (bs : List UInt8) (wd : Nat) (h1 : 1 ≤ wd) (h2 : wd ≤ 64) : dV okU bs wd = uV bs wd := by
  have hl := decU_lt bs wd h1
  have hp : (2 : Nat) ^ wd ≤ 2 ^ 64 := Nat.pow_le_pow_right (by decide) h2
  have h64 : (2 : Nat) ^ 64 = 18446744073709551616 := by decide
  unfold dV uV
  unfold decU at hl ⊢
  simp only at hl ⊢
  split
  · rename_i h
    rw [if_pos h] at hl
    unfold vm
    rw [Nat.mod_eq_of_lt (by omega)]
  · rfl

/-- the bits of a number that ends in 64, with its sign -/
theorem sign_ext (bs : List UInt8) (k : Nat) (hk : k < bs.length) (hx : bs[k].toNat < 128) (h9 : k ≤ 9) (hs : k = 9 → bs[k].toNat = 0 ∨ bs[k].toNat = 127) :
    IntKind.i64.wrap (IntKind.u64.wrap ((vm (bs.take (k + 1)) : Int) * 2 ^ (64 - 7 * (k + 1)))) / 2 ^ (64 - 7 * (k + 1)) = sval (bs.take (k + 1)) := by
  rw [sval_take_succ bs k hk hx, IntKind.wrap_i64, IntKind.wrap_u64]
  have hv := val_take_lt bs k
  have e1 : vm (bs.take (k + 1)) = (val (bs.take k) + 128 ^ k * bs[k].toNat) % 18446744073709551616 := by
    unfold vm; rw [val_take_succ bs k hk, Nat.mod_eq_of_lt hx]
  rw [e1]
  unfold top
  generalize val (bs.take k) = V at hv
  generalize bs[k].toNat = x at hx hs
  have hkv : k = 0 ∨ k = 1 ∨ k = 2 ∨ k = 3 ∨ k = 4 ∨ k = 5 ∨ k = 6 ∨ k = 7 ∨ k = 8 ∨ k = 9 := by omega
  rcases hkv with rfl | rfl | rfl | rfl | rfl | rfl | rfl | rfl | rfl | rfl
  · rw [show (128 : Nat) ^ 0 = 1 by decide] at hv ⊢
    rw [show (2 : Int) ^ (64 - 7 * (0 + 1)) = 144115188075855872 by decide]
    split <;> omega
  · rw [show (128 : Nat) ^ 1 = 128 by decide] at hv ⊢
    rw [show (2 : Int) ^ (64 - 7 * (1 + 1)) = 1125899906842624 by decide]
    split <;> omega
  · rw [show (128 : Nat) ^ 2 = 16384 by decide] at hv ⊢
    rw [show (2 : Int) ^ (64 - 7 * (2 + 1)) = 8796093022208 by decide]
    split <;> omega
  · rw [show (128 : Nat) ^ 3 = 2097152 by decide] at hv ⊢
    rw [show (2 : Int) ^ (64 - 7 * (3 + 1)) = 68719476736 by decide]
    split <;> omega
  · rw [show (128 : Nat) ^ 4 = 268435456 by decide] at hv ⊢
    rw [show (2 : Int) ^ (64 - 7 * (4 + 1)) = 536870912 by decide]
    split <;> omega
  · rw [show (128 : Nat) ^ 5 = 34359738368 by decide] at hv ⊢
    rw [show (2 : Int) ^ (64 - 7 * (5 + 1)) = 4194304 by decide]
    split <;> omega
  · rw [show (128 : Nat) ^ 6 = 4398046511104 by decide] at hv ⊢
    rw [show (2 : Int) ^ (64 - 7 * (6 + 1)) = 32768 by decide]
    split <;> omega
  · rw [show (128 : Nat) ^ 7 = 562949953421312 by decide] at hv ⊢
    rw [show (2 : Int) ^ (64 - 7 * (7 + 1)) = 256 by decide]
    split <;> omega
  · rw [show (128 : Nat) ^ 8 = 72057594037927936 by decide] at hv ⊢
    rw [show (2 : Int) ^ (64 - 7 * (8 + 1)) = 2 by decide]
    split <;> omega
  · rw [show (128 : Nat) ^ 9 = 9223372036854775808 by decide] at hv ⊢
    rw [show (2 : Int) ^ (64 - 7 * (9 + 1)) = 1 by decide]
    split <;> omega

theorem wrap64_i64 (x : Int) : wrap64 x = IntKind.i64.wrap x := by rw [IntKind.wrap_i64]; unfold wrap64; rfl
theorem okS_one (x : Nat) (h : okS x 1 = true) : x = 0 ∨ x = 127 := by
  simp only [okS, decide_eq_true_eq] at h
  rw [show 1 - 1 = 0 from rfl, Nat.pow_zero, Nat.div_one, Nat.div_one] at h
  exact h

theorem sign_ext' (bs : List UInt8) (wd : Nat) (h1 : 1 ≤ wd) (h2 : wd ≤ 64) (h0 : dE okS bs wd = 0) :
    IntKind.i64.wrap (IntKind.u64.wrap ((dV okS bs wd : Int) * 2 ^ (64 - 7 * dN okS bs wd))) / 2 ^ (64 - 7 * dN okS bs wd) = sV bs wd := by
  obtain ⟨hl, hs, e, hk⟩ := scan_ok h0
  have hx := stop_at bs hl
  have h0' : (scan okS bs wd).2 = 0 := h0
  unfold dV dN sV decS
  simp only [h0', if_true]
  rw [e]
  refine sign_ext bs (stop bs) hl hx (by unfold most at hs; omega) ?_
  intro h9
  have hm : most wd = 10 := by unfold most at hs ⊢; omega
  have hw : wd - 7 * stop bs = 1 := by unfold most at hm; omega
  have := hk (by omega)
  rw [hw] at this
  exact okS_one _ this

end Go.Proofs.Ytkfohickmdkplaa

namespace Go.Proofs.Ytkfohickmdkplaa
open Go.RowKit Go.Proofs.Leb Go.Proofs.Own Go.Proofs.Cur
set_option maxRecDepth 100000
set_option maxHeartbeats 4000000

structure SInv (C : Nat) (v : Value) (bs : List UInt8) (lim mn mx : Int) (bits : Nat) (O : Out (List UInt8)) (w : World) (ds : List UInt8) (xv g q : Nat) (wr : World) : Prop where
  up : Upd (· = C) w wr
  cur : Cur wr C v bs q lim 0
  inv : Inv bs.length lim q
  kg : One1 wr g (.int .i64 ds.length)
  kt : One1 wr w.heap.size (.int .i64 bits)
  kb : Blk wr (w.heap.size + 1) (.int .i64 mn) (.int .i64 mx) 68
  kl : One1 wr (w.heap.size + 1 + 1) (.int .i64 ((bits - 1) / 7 : Nat))
  ge : w.heap.size + 1 < g
  len : ds.length ≤ (bits - 1) / 7 + 1
  go : 128 ≤ xv → ds.length ≤ (bits - 1) / 7 ∧ numO bs lim (mayS (fun r => Span.has mn mx r = true) bits) ((bits - 1) / 7 + 1 - ds.length) ds q = O
  st : xv < 128 → O = .ok ds q ∧ ∃ ds' x, ds = ds' ++ [x] ∧ x.toNat = xv ∧ (ds'.length = 9 → x.toNat = 0 ∨ x.toNat = 127)

/-- the number, of digits that have come out -/
def SintV (ds : List UInt8) : Value := .int .i64 (sval ds)

theorem sext (ds : List UInt8) (x : UInt8) (hx : x.toNat < 128) (h9 : ds.length ≤ 9) (hs : ds.length = 9 → x.toNat = 0 ∨ x.toNat = 127) :
    IntKind.i64.wrap (IntKind.u64.wrap ((vm (ds ++ [x]) : Int) * 2 ^ (64 - 7 * (ds.length + 1)))) / 2 ^ (64 - 7 * (ds.length + 1)) = sval (ds ++ [x]) := by
  have hlen : ds.length < (ds ++ [x]).length := by simp
  have hget : (ds ++ [x])[ds.length] = x := by rw [List.getElem_append_right (Nat.le_refl _)]; simp
  have h := sign_ext (ds ++ [x]) ds.length hlen (by rw [hget]; exact hx) h9 (by rw [hget]; exact hs)
  rw [List.take_of_length_le (by simp)] at h
  exact h

theorem mayS9 {mn mx : Int} {bits : Nat} {ds : List UInt8} {x : UInt8} {r : Int} (hb : bits ≤ 64) (h : mayS (fun r => Span.has mn mx r = true) bits ds x r) (hx : x.toNat < 128) (hl : ds.length = 9) (hk : ds.length ≤ (bits - 1) / 7) :
    x.toNat = 0 ∨ x.toNat = 127 := by
  unfold mayS comes at h
  rw [if_pos hx] at h
  have hbits : bits = 64 := by omega
  subst hbits
  rcases h.2 with h | h | h
  · omega
  · omega
  · rw [hl] at h
    unfold alike at h
    simp only [show 64 - 7 * 9 - 1 = 0 by decide, Nat.pow_zero, Nat.div_one] at h
    exact h

theorem Sint_any {w : World} {C : Nat} {v : Value} {bs : List UInt8} {p : Nat} {lim : Int} (h : Cur w C v bs p lim 0) (hi : Inv bs.length lim p) (bits : Nat) (hb1 : 1 ≤ bits) (hb2 : bits ≤ 64) (mn mx : Int) :
    Calls Try.prog 23 #[.pointer (some ⟨C, 0, none⟩), .int .i64 bits, .agg #[.int .i64 mn, .int .i64 mx]] w (Got C v bs lim SintV (sintO bs lim (fun r => Span.has mn mx r = true) bits p) w) := by
  have HI := hid hi
  have H0 := hid h
  have hC := h.lt
  obtain ⟨O, hO⟩ : ∃ O, sintO bs lim (fun r => Span.has mn mx r = true) bits p = O := ⟨_, rfl⟩
  have HO := hid hO
  rw [hO]
  have e64 : (if (64 : Int) < bits then (64 : Int) else bits) = bits := by rw [if_neg (by omega)]
  have e1 : (if (bits : Int) < 1 then (1 : Int) else bits) = bits := by rw [if_neg (by omega)]
  obtain ⟨l, hl⟩ : ∃ l, (bits - 1) / 7 = l := ⟨_, rfl⟩
  have el : ((bits : Int) - 1) / 7 = (l : Int) := by rw [← hl]; omega
  have HL := hid hl
  clear hi h hO hl
  go_enter Try.func23, Try.ntmps23
  go_wp2_with fail
  have i0 : SInv C v bs lim mn mx bits O w [] 128 (w.heap.size + 1 + 1 + 1) p ((((w.alloc (.cells #[.int .i64 bits] 3)).alloc (.cells #[.int .i64 mn, .int .i64 mx] 68)).alloc (.cells #[.int .i64 l] 3)).alloc (.cells #[.int .i64 0] 3)) := by
    have nn : New w ((((w.alloc (.cells #[.int .i64 bits] 3)).alloc (.cells #[.int .i64 mn, .int .i64 mx] 68)).alloc (.cells #[.int .i64 l] 3)).alloc (.cells #[.int .i64 0] 3)) := ((((Upd.refl _ _).alloc _).alloc _).alloc _).alloc _
    refine ⟨New.upd nn, H0.out.new nn, HI.out, .mk (by simp), (((One1.mk rfl).push _).push _).push _, ?_, ?_, by omega, by simp, fun _ => ⟨by simp, HO.out⟩, fun h => absurd h (by decide)⟩
    · exact (Blk.new (Blk.new (by have := @Blk.mk (w.alloc (.cells #[.int .i64 bits] 3)) (.int .i64 mn) (.int .i64 mx) 68; simpa using this) ((Upd.refl _ _).alloc _)) ((Upd.refl _ _).alloc _))
    · rw [HL.out]; exact (One1.mk (by simp)).push _
  generalize ((((w.alloc (.cells #[.int .i64 bits] 3)).alloc (.cells #[.int .i64 mn, .int .i64 mx] 68)).alloc (.cells #[.int .i64 l] 3)).alloc (.cells #[.int .i64 0] 3)) = w0 at *
  have I0 := hid i0
  have el' := hid el
  clear i0 e64 e1 el
  go_loopg [8, 9, 10, 11] 11 (fun n vv uu kp x wr => ∃ (ds : List UInt8) (xv g q : Nat), n = 11 - ds.length ∧ vv = .int .u64 (vm ds : Nat) ∧ uu = .int .i64 (64 - 7 * ds.length : Nat) ∧ kp = .pointer (some ⟨g, 0, none⟩) ∧ x = .int .u8 xv ∧ SInv C v bs lim mn mx bits O w ds xv g q wr)
  case atStart => exact ⟨[], 128, _, p, rfl, rfl, rfl, rfl, rfl, I0.out⟩
  case round =>
    obtain ⟨ds, xv, g, q, rfl, rfl, rfl, rfl, rfl, hi⟩ := hrel
    have IR := hid hi
    clear hi I0
    obtain ⟨k, hk⟩ : ∃ k, ds.length = k := ⟨_, rfl⟩
    have hl9 : l ≤ 9 := by rw [← HL.out]; omega
    by_cases h128 : 128 ≤ xv
    · obtain ⟨hll, hnum⟩ := IR.out.go h128
      have hd : decide ((128 : Int) ≤ (xv : Int)) = true := by simp; omega
      rw [hk, HL.out] at hll hnum
      obtain ⟨n, hn⟩ : ∃ n, l + 1 - k = n + 1 := ⟨l - k, by omega⟩
      rw [hn, numO_step] at hnum
      have HNUM := hid hnum
      have HNN := hid hn
      have HB := hid (Byte_any IR.out.cur IR.out.inv 53 #[.pointer (some ⟨w.heap.size + 1 + 1, 0, none⟩), .pointer (some ⟨g, 0, none⟩), .pointer (some ⟨w.heap.size + 1, 0, none⟩), .pointer (some ⟨w.heap.size, 0, none⟩)] (fun _ _ => rfl)
        (mayS (fun r => Span.has mn mx r = true) bits ds)
        (fun hp w1 hu hc r0 r1 => Sint1_any bits (w.heap.size + 1) g (w.heap.size + 1 + 1) w.heap.size ds bs[q] mn mx (rest lim (q + 1)) w1 r0 r1 (by rw [hk, HL.out]; exact hll) hb1 hb2
          (hu.cell IR.out.kb.c0 (by simp; omega)) (hu.cell IR.out.kb.c1 (by simp; omega)) (IR.out.kg.upd hu (by have := IR.out.ge; omega)).c (IR.out.kl.upd hu (by omega)).c (IR.out.kt.upd hu (by omega)).c))
      have hor := fun x => digit_or' ds x (by rw [hk]; omega)
      rw [hk] at hor
      have HOR := hid hor
      have HK := hid hk
      obtain ⟨v0, hv0⟩ : ∃ v0, vm ds = v0 := ⟨_, rfl⟩
      rw [hv0] at HOR
      obtain ⟨u0, hu0⟩ : ∃ u0, 64 - 7 * k = u0 := ⟨_, rfl⟩
      have hu1 : (u0 : Int) = 64 - 7 * (k : Int) := by omega
      rw [hk, hu0, hv0]
      have HU0 := hid hu0
      have HU1 := hid hu1
      clear hnum hk hn hor hv0 hu0 hu1
      have hmf : ∀ (fn : Fn) (first cap : Array Value) (w : World), (Instr.makeFunc fn first cap).run Try.prog w = .ok (.func fn first cap) w := fun _ _ _ _ => rfl
      go_wp2_with fail
      refine HB.out.mono ?_
      rintro e w4 ⟨hu4, hm4⟩
      have HU4 := hid hu4
      cases ho : byteO bs lim (mayS (fun r => Span.has mn mx r = true) bits ds) q with
      | up q' er =>
        rw [ho] at hm4
        obtain ⟨rfl, hc4⟩ := hm4
        have HO4 : Hid (O = .up q' er) := by show _ = _; rw [← HNUM.out, ho]; rfl
        have HC4 := hid hc4
        clear ho hc4 hu4 HNUM
        go_wp2_with fail
        exact ⟨rfl, Got.mk_up HO4.out (IR.out.up.trans HU4.out (fun _ _ h => h)) rfl HC4.out⟩
      | ok x q' =>
        rw [ho] at hm4
        obtain ⟨rfl, hc4⟩ := hm4
        have hbi := byteO_inv IR.out.inv ho
        have hbo := byteO_ok ho
        have HNUM4 : Hid ((if x.toNat < 128 then Out.ok (ds ++ [x]) q' else numO bs lim (mayS (fun r => Span.has mn mx r = true) bits) n (ds ++ [x]) q') = O) := by
          show _ = _
          rw [← HNUM.out, ho]; rfl
        have HBI := hid hbi
        have HBO := hid hbo
        have HC4 := hid hc4
        have kg4 := IR.out.kg.upd hu4 (by have := IR.out.ge; omega)
        rw [HK.out] at kg4
        have kt4 := hid (IR.out.kt.upd hu4 (by omega))
        have kl4 := hid (IR.out.kl.upd hu4 (by omega))
        have kb4 : Hid (Blk w4 (w.heap.size + 1) (.int .i64 mn) (.int .i64 mx) 68) := (hu4.block _ IR.out.kb.lt (by omega)).trans IR.out.kb
        have hor := HOR.out x
        obtain ⟨v1, hv1⟩ : ∃ v1, vm (ds ++ [x]) = v1 := ⟨_, rfl⟩
        rw [hv1] at hor
        have HV1 := hid hv1
        have zg := kg4.c
        have hx := u8_lt x
        have hge := IR.out.ge
        have U4 := hid (IR.out.up.trans HU4.out (fun _ _ h => h))
        have hu2 : u0 ≤ 64 := by have := HU0.out; omega
        clear ho hc4 hu4 hbi hbo kg4 hv1 HNUM HOR
        unfold cb
        go_wp2_with fail
        all_goals
          have hlen : (ds ++ [x]).length = k + 1 := by rw [List.length_append, HK.out]; rfl
          have hk9 : k ≤ 9 := by omega
          go_roundg (11 - (k + 1))
          case measure => rw [HK.out]; omega
          case rel =>
            refine ⟨ds ++ [x], x.toNat, w4.heap.size, q', by rw [hlen], by rw [HV1.out], ?_, rfl, rfl, ?_⟩
            · rw [hlen]
              have := HU1.out
              congr 1
              omega
            · refine ⟨U4.out.alloc _, HC4.out.new ((Upd.refl _ _).alloc _), HBI.out, ?_, kt4.out.push _, Blk.new kb4.out ((Upd.refl _ _).alloc _), kl4.out.push _, ?_, by rw [hlen, HL.out]; omega, ?_, ?_⟩
              · rw [hlen]; exact One1.mk rfl
              · have := kl4.out.lt; omega
              · intro h
                have h4 : k < l := by
                  rcases Nat.lt_or_ge k l with h' | h'
                  · exact h'
                  · have := mayS_last (by rw [HK.out, HL.out]; exact h') HBO.out.2.2.2.2
                    omega
                rw [hlen, HL.out]
                refine ⟨by omega, ?_⟩
                have := HNUM4.out
                rw [if_neg (by omega)] at this
                rw [show l + 1 - (k + 1) = n by have := HNN.out; omega]
                exact this
              · intro h
                have := HNUM4.out
                rw [if_pos h] at this
                exact ⟨this.symm, ds, x, rfl, rfl, fun h9 => mayS9 hb2 HBO.out.2.2.2.2 h h9 (by rw [HK.out, HL.out]; exact hll)⟩
    · have hd : decide ((128 : Int) ≤ (xv : Int)) = false := by simp; omega
      obtain ⟨hst, ds', x, rfl, hxv, h9⟩ := IR.out.st (by omega)
      have hlen : (ds' ++ [x]).length = ds'.length + 1 := by simp
      have hle := IR.out.len
      rw [hlen, HL.out] at hle
      have HS := hid (sext ds' x (by omega) (by omega) h9)
      have HST := hid hst
      obtain ⟨v0, hv0⟩ : ∃ v0, vm (ds' ++ [x]) = v0 := ⟨_, rfl⟩
      obtain ⟨u0, hu0⟩ : ∃ u0, 64 - 7 * (ds'.length + 1) = u0 := ⟨_, rfl⟩
      rw [hlen, hu0, hv0]
      rw [hv0, hu0] at HS
      have hu2 : u0 ≤ 64 := by omega
      clear hst hv0 hu0 hk
      go_wp2_with fail
      go_ret
      refine Got.mk_ok HST.out IR.out.up ?_ IR.out.cur
      unfold SintV
      rw [← HS.out, ← wrap64_i64]
      rfl
end Go.Proofs.Ytkfohickmdkplaa

namespace Go.Proofs
open Go.Shelf
end Go.Proofs

namespace Go.Proofs.Ytkfohickmdkplaa
open Go.RowKit Go.Proofs.Leb Go.Proofs.Own
set_option maxRecDepth 100000
set_option maxHeartbeats 2000000

end Go.Proofs.Ytkfohickmdkplaa

namespace Go.Proofs.Ytkfohickmdkplaa
open Go.RowKit Go.Proofs.Leb Go.Proofs.Own
set_option maxRecDepth 100000
set_option maxHeartbeats 2000000

end Go.Proofs.Ytkfohickmdkplaa

namespace Go.Proofs.Ytkfohickmdkplaa
open Go.RowKit Go.Proofs.Leb Go.Proofs.Own
set_option maxRecDepth 100000
set_option maxHeartbeats 2000000

end Go.Proofs.Ytkfohickmdkplaa

namespace Go.Proofs.Ytkfohickmdkplaa
open Go.RowKit Go.Proofs.Leb Go.Proofs.Own
set_option maxRecDepth 100000
set_option maxHeartbeats 2000000

/-! ### taking -/
/-- what End tells: it doesn't look at the bits beyond -/
def eN (bs : List UInt8) (wd : Nat) : Nat := if stop bs < most wd then (if stop bs < bs.length then stop bs + 1 else bs.length) else most wd - 1
def eE (bs : List UInt8) (wd : Nat) : Nat := if stop bs < most wd then (if stop bs < bs.length then 0 else 1) else 2

theorem scan_e (ok : Nat → Nat → Bool) (bs : List UInt8) (wd : Nat) (h : eE bs wd ≠ 0) : dN ok bs wd = eN bs wd ∧ dE ok bs wd = eE bs wd := by
  have := stop_le bs
  unfold dN dE scan
  unfold eE at h
  unfold eE eN
  split at h
  · rename_i h1
    split at h
    · simp at h
    · rename_i h2
      rw [if_pos h1, dif_neg h2, if_pos h1, if_neg h2, if_pos h1, if_neg h2]
      exact ⟨rfl, rfl⟩
  · rename_i h1
    rw [if_neg h1, if_neg h1, if_neg h1]
    exact ⟨rfl, rfl⟩
theorem scan_0 (bs : List UInt8) (wd : Nat) (h : eE bs wd = 0) : eN bs wd = stop bs + 1 ∧ stop bs < bs.length ∧ stop bs < most wd := by
  have := stop_le bs
  unfold eE at h
  unfold eN
  split at h
  · rename_i h1
    split at h
    · rename_i h2
      rw [if_pos h1, if_pos h2]
      exact ⟨rfl, h2, h1⟩
    · simp at h
  · simp at h
theorem val_drop_step (l : List UInt8) (j : Nat) (h : j < l.length) : val (l.drop j) = l[j].toNat % 128 + 128 * val (l.drop (j + 1)) := by
  rw [List.drop_eq_getElem_cons h]; rfl
theorem val_drop_le (l : List UInt8) (j : Nat) : val (l.drop j) ≤ val l := by
  have h := val_append (l.take j) (l.drop j)
  rw [List.take_append_drop] at h
  have : 1 * val (l.drop j) ≤ 128 ^ (l.take j).length * val (l.drop j) := Nat.mul_le_mul_right _ (Nat.pow_pos (by decide))
  omega

end Go.Proofs.Ytkfohickmdkplaa

namespace Go.Proofs.Ytkfohickmdkplaa
open Go.RowKit Go.Proofs.Leb Go.Proofs.Own
set_option maxRecDepth 100000
set_option maxHeartbeats 2000000

def bit (x i : Nat) : Nat := x / 2 ^ i % 2
theorem okS_bits_fin : ∀ x : Fin 128, ∀ l : Fin 8, 1 ≤ l.val → (okS x.val l.val = true ↔ ∀ j : Fin 7, l.val ≤ j.val → bit x.val j.val = bit x.val (l.val - 1)) := by decide +kernel
theorem okS_bits (x l : Nat) (hx : x < 128) (h1 : 1 ≤ l) (h7 : l ≤ 7) : okS x l = true ↔ ∀ j, l ≤ j → j < 7 → bit x j = bit x (l - 1) := by
  have h := okS_bits_fin ⟨x, hx⟩ ⟨l, by omega⟩ h1
  simp only at h
  rw [h]
  exact ⟨fun h j h1 h2 => h ⟨j, h2⟩ h1, fun h j h1 => h j.val h1 j.isLt⟩

theorem sval_drop_step (l : List UInt8) (j : Nat) (h : j + 1 < l.length) : sval (l.drop j) = ((l[j].toNat % 128 : Nat) : Int) + 128 * sval (l.drop (j + 1)) := by
  rw [List.drop_eq_getElem_cons (by omega), sval_cons _ _ (by rw [List.length_drop]; omega)]
theorem sval_drop_bd (l : List UInt8) (h1 : -9223372036854775808 ≤ sval l) (h2 : sval l < 9223372036854775808) : ∀ j, j < l.length → -9223372036854775808 ≤ sval (l.drop j) ∧ sval (l.drop j) < 9223372036854775808 := by
  intro j
  induction j with
  | zero => intro _; simpa using ⟨h1, h2⟩
  | succ j ih =>
    intro hj
    have := ih (by omega)
    rw [sval_drop_step l j hj] at this
    omega
theorem sval_last (l : List UInt8) (s : Nat) (h : s + 1 = l.length) (hx : (l[s]'(by omega)).toNat < 128) : sval (l.drop s) = top (l[s]'(by omega)).toNat := by
  rw [List.drop_eq_getElem_cons (by omega), List.drop_of_length_le (by omega)]
  unfold sval top
  rw [Nat.mod_eq_of_lt hx]

end Go.Proofs.Ytkfohickmdkplaa
