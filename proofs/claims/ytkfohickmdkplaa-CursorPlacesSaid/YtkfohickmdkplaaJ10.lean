/-
  The document's reader in memory: its rest, giving up, its next byte.
-/
import Derived.Test.YtkfohickmdkplaaJ7
import Derived.Test.YtkfohickmdkplaaJ2
import Derived.Test.YtkfohickmdkplaaJ8
import Derived.Test.YtkfohickmdkplaaJ9
import Derived.Deep.RegionHeld3
import Derived.Deep.DeepCutAuto
import Derived.WalkMore
namespace Go.Proofs.Ytkfohickmdkplaa
open Go.RowKit Go.Proofs.Leb Go.Proofs.Own Go.Proofs.Cur
set_option maxRecDepth 100000
set_option maxHeartbeats 2000000

/-- the document's reader in its block -/
def Rdr (w : World) (R : Nat) (B : ByteArray) (p : Nat) (lim : Int) (er sp : Nat) : Prop :=
  w.heap[R]? = some (.cells #[.string B, .int .i64 p, .int .i64 lim, .int .i64 er, .int .i64 sp] 37)

theorem Rdr.lt {w : World} {R : Nat} {B : ByteArray} {p : Nat} {lim : Int} {er sp : Nat} (h : Rdr w R B p lim er sp) : R < w.heap.size := (Array.getElem?_eq_some_iff.1 h).1
theorem Rdr.c0 {w : World} {R : Nat} {B : ByteArray} {p : Nat} {lim : Int} {er sp : Nat} (h : Rdr w R B p lim er sp) : w.cell? ⟨R, 0, none⟩ = some (.string B) := by rw [cell_of_row _ R 0 _ _ (0, 0) h]; rfl
theorem Rdr.c1 {w : World} {R : Nat} {B : ByteArray} {p : Nat} {lim : Int} {er sp : Nat} (h : Rdr w R B p lim er sp) : w.cell? ⟨R, 1, none⟩ = some (.int .i64 p) := by rw [cell_of_row _ R 1 _ _ (0, 0) h]; rfl
theorem Rdr.c2 {w : World} {R : Nat} {B : ByteArray} {p : Nat} {lim : Int} {er sp : Nat} (h : Rdr w R B p lim er sp) : w.cell? ⟨R, 2, none⟩ = some (.int .i64 lim) := by rw [cell_of_row _ R 2 _ _ (0, 0) h]; rfl
theorem Rdr.c3 {w : World} {R : Nat} {B : ByteArray} {p : Nat} {lim : Int} {er sp : Nat} (h : Rdr w R B p lim er sp) : w.cell? ⟨R, 3, none⟩ = some (.int .i64 er) := by rw [cell_of_row _ R 3 _ _ (0, 0) h]; rfl
theorem Rdr.c4 {w : World} {R : Nat} {B : ByteArray} {p : Nat} {lim : Int} {er sp : Nat} (h : Rdr w R B p lim er sp) : w.cell? ⟨R, 4, none⟩ = some (.int .i64 sp) := by rw [cell_of_row _ R 4 _ _ (0, 0) h]; rfl
theorem Rdr.f {w : World} {R : Nat} {B : ByteArray} {p : Nat} {lim : Int} {er sp : Nat} (h : Rdr w R B p lim er sp) (i : Nat) : w.frozen? ⟨R, i, none⟩ = false := by unfold Rdr at h; simp [World.frozen?, h]
theorem Rdr.upd {w w' : World} {R : Nat} {B : ByteArray} {p : Nat} {lim : Int} {er sp : Nat} {S : Nat → Prop} (h : Rdr w R B p lim er sp) (hu : Upd S w w') (hR : ¬ S R) : Rdr w' R B p lim er sp :=
  (hu.block R h.lt hR).trans h
theorem Rdr.new {w w' : World} {R : Nat} {B : ByteArray} {p : Nat} {lim : Int} {er sp : Nat} (h : Rdr w R B p lim er sp) (hn : New w w') : Rdr w' R B p lim er sp := h.upd hn (fun h => h)
theorem Rdr.at1 {w : World} {R : Nat} {B : ByteArray} {p : Nat} {lim : Int} {er sp : Nat} (h : Rdr w R B p lim er sp) (q : Nat) : Rdr (w.setCell ⟨R, 1, none⟩ (.int .i64 q)) R B q lim er sp := by
  unfold Rdr at h ⊢; simp [World.setCell, Array.getElem?_modify, h]
theorem Rdr.lim2 {w : World} {R : Nat} {B : ByteArray} {p : Nat} {lim : Int} {er sp : Nat} (h : Rdr w R B p lim er sp) (q : Int) : Rdr (w.setCell ⟨R, 2, none⟩ (.int .i64 q)) R B p q er sp := by
  unfold Rdr at h ⊢; simp [World.setCell, Array.getElem?_modify, h]
theorem Rdr.give {w : World} {R : Nat} {B : ByteArray} {p : Nat} {lim : Int} {er sp : Nat} (h : Rdr w R B p lim er sp) (e q : Nat) :
    Rdr ((w.setCell ⟨R, 3, none⟩ (.int .i64 e)).setCell ⟨R, 4, none⟩ (.int .i64 q)) R B p lim e q := by
  unfold Rdr at h ⊢; simp [World.setCell, Array.getElem?_modify, h]
theorem updR (w : World) (R i : Nat) (u : Value) : Upd (· = R) w (w.setCell ⟨R, i, none⟩ u) := (Upd.refl (· = R) w).setCell (p := ⟨R, i, none⟩) (.inr rfl) u

theorem rRest_any {w : World} {R : Nat} {B : ByteArray} {p : Nat} {lim : Int} {er sp : Nat} (h : Rdr w R B p lim er sp) (hi : Inv B.size lim p) :
    Calls Try.prog 38 #[.pointer (some ⟨R, 0, none⟩)] w fun e w' => e = .returned (.int .i64 (rest lim p)) ∧ New w w' := by
  have c1 := h.c1
  have c2 := h.c2
  have i1 := hi.place
  have i2 := hi.len
  have i3 := hi.lim
  by_cases hl : lim = -1
  · subst hl
    go_enter Try.func38, Try.ntmps38
    go_wp2
    go_ret
    exact ⟨rfl, Upd.refl _ _⟩
  · have hb : ¬ lim < 0 := by omega
    have e : rest lim p = lim - p := by unfold rest; rw [if_neg hl]
    have HE := hid e
    have l1 : (p : Int) ≤ lim := by omega
    have l2 : lim ≤ p + 1099511627776 := by omega
    clear i3 hl e
    go_enter Try.func38, Try.ntmps38
    go_wp2_with fail
    go_quiet (fail)
    go_wp2_with fail
    go_ret
    exact ⟨by rw [HE.out]; rfl, ⟨rfl, rfl, rfl, Nat.le_refl _, fun _ _ _ => rfl⟩⟩
/-- what is left behind n more bytes, as the document reckons it -/
def behD (lim : Int) (p : Nat) (n : Int) : Int := if lim = -1 then 1099511627776 else rest lim p - n
theorem rBehind_any {w : World} {R : Nat} {B : ByteArray} {p : Nat} {lim : Int} {er sp : Nat} (h : Rdr w R B p lim er sp) (hi : Inv B.size lim p) (n : Int) (hn1 : 0 ≤ n) (hn2 : n ≤ 1000) :
    Calls Try.prog 64 #[.pointer (some ⟨R, 0, none⟩), .int .i64 n] w fun e w' => e = .returned (.int .i64 (behD lim p n)) ∧ New w w' := by
  have c2 := h.c2
  have hr := hi.rest
  have i3 := hi.lim
  by_cases hl : lim = -1
  · subst hl
    go_enter Try.func64, Try.ntmps64
    go_wp2_with fail
    go_ret
    exact ⟨rfl, Upd.refl _ _⟩
  · have hb : ¬ lim < 0 := by omega
    have e : behD lim p n = rest lim p - n := by unfold behD; rw [if_neg hl]
    have HR := hid (rRest_any h hi)
    generalize rest lim p = r at *
    have HE := hid e
    clear i3 hl e hi
    go_enter Try.func64, Try.ntmps64
    go_wp2_with fail
    refine HR.out.mono ?_
    rintro e w1 ⟨rfl, hn⟩
    have HN := hid hn
    clear hn
    go_wp2_with fail
    go_ret
    exact ⟨by rw [HE.out]; rfl, HN.out⟩

theorem rGive_any {w : World} {R : Nat} {B : ByteArray} {p : Nat} {lim : Int} {sp : Nat} (h : Rdr w R B p lim 0 sp) (e q : Nat) :
    Calls Try.prog 61 #[.pointer (some ⟨R, 0, none⟩), .int .i64 e, .int .i64 q] w fun en w' => en = .returned (.tuple #[]) ∧ Rdr w' R B p lim e q ∧ Upd (· = R) w w' := by
  have c3 := h.c3
  have c4 := h.c4
  have f3 := h.f 3
  have f4 := h.f 4
  have HG := hid (h.give e q)
  have HU : Hid (Upd (· = R) w ((w.setCell ⟨R, 3, none⟩ (.int .i64 e)).setCell ⟨R, 4, none⟩ (.int .i64 q))) := (updR w R 3 _).trans (updR _ R 4 _) (fun _ _ h => h)
  go_enter Try.func61, Try.ntmps61
  go_wp2
  go_end0
  exact ⟨rfl, HG.out, HU.out⟩
theorem rGive_gone {w : World} {R : Nat} {B : ByteArray} {p : Nat} {lim : Int} {er sp : Nat} (h : Rdr w R B p lim er sp) (he : er ≠ 0) (e q : Int) :
    Calls Try.prog 61 #[.pointer (some ⟨R, 0, none⟩), .int .i64 e, .int .i64 q] w fun en w' => en = .returned (.tuple #[]) ∧ w = w' := by
  have c3 := h.c3
  have hb : ((er : Int) == 0) = false := by rw [beq_eq_false_iff_ne]; omega
  go_enter Try.func61, Try.ntmps61
  go_wp2
  go_end0
  exact ⟨rfl, rfl⟩
/-- it gives up at q, unless something is so -/
theorem rNeed_any' {w : World} {R : Nat} {B : ByteArray} {p : Nat} {lim : Int} {sp : Nat} (h : Rdr w R B p lim 0 sp) (b : Bool) (q : Nat) :
    Calls Try.prog 31 #[.pointer (some ⟨R, 0, none⟩), .bool b, .int .i64 q] w fun en w' => en = .returned (.tuple #[]) ∧ Rdr w' R B p lim (if b then 0 else 2) (if b then sp else q) ∧ Upd (· = R) w w' := by
  have HG := hid (rGive_any h 2 q)
  have H0 := hid h
  cases b with
  | true =>
    go_enter Try.func31, Try.ntmps31
    go_wp2_with fail
    go_end0
    exact ⟨rfl, H0.out, Upd.refl _ _⟩
  | false =>
    go_enter Try.func31, Try.ntmps31
    go_wp2_with fail
    refine HG.out.mono ?_
    rintro e w1 ⟨rfl, h1, u1⟩
    have H1 := hid h1
    have U1 := hid u1
    clear h1 u1
    go_wp2_with fail
    go_end0
    exact ⟨rfl, H1.out, U1.out⟩
theorem rNeed_gone {w : World} {R : Nat} {B : ByteArray} {p : Nat} {lim : Int} {er sp : Nat} (h : Rdr w R B p lim er sp) (he : er ≠ 0) (b : Bool) (q : Int) :
    Calls Try.prog 31 #[.pointer (some ⟨R, 0, none⟩), .bool b, .int .i64 q] w fun en w' => en = .returned (.tuple #[]) ∧ w = w' := by
  have HG := hid (rGive_gone h he 2 q)
  cases b with
  | true =>
    go_enter Try.func31, Try.ntmps31
    go_wp2_with fail
    go_end0
    exact ⟨rfl, rfl⟩
  | false =>
    go_enter Try.func31, Try.ntmps31
    go_wp2_with fail
    refine HG.out.mono ?_
    rintro e w1 ⟨rfl, rfl⟩
    go_wp2_with fail
    go_end0
    exact ⟨rfl, rfl⟩
end Go.Proofs.Ytkfohickmdkplaa

namespace Go.Proofs.Ytkfohickmdkplaa
open Go.RowKit Go.Proofs.Leb Go.Proofs.Own Go.Proofs.Cur
set_option maxRecDepth 100000
set_option maxHeartbeats 2000000

/-- what comes of reading, in the document's memory -/
def RGot {α : Type} (R : Nat) (B : ByteArray) (lim : Int) (V : α → Value) (o : Out α) (w : World) (e : Ending) (w' : World) : Prop :=
  Upd (· = R) w w' ∧ match o with
    | .ok a q => e = .returned (V a) ∧ Rdr w' R B q lim 0 0
    | .up q er => ∃ a p', e = .returned (V a) ∧ Rdr w' R B p' lim er q
theorem RGot.mk_ok {α : Type} {R : Nat} {B : ByteArray} {lim : Int} {V : α → Value} {o : Out α} {w : World} {e : Ending} {w' : World} {a : α} {q : Nat} (h : o = .ok a q)
    (hu : Upd (· = R) w w') (he : e = .returned (V a)) (hc : Rdr w' R B q lim 0 0) : RGot R B lim V o w e w' := by subst h; exact ⟨hu, he, hc⟩
theorem RGot.mk_up {α : Type} {R : Nat} {B : ByteArray} {lim : Int} {V : α → Value} {o : Out α} {w : World} {e : Ending} {w' : World} {q er p' : Nat} (a : α) (h : o = .up q er)
    (hu : Upd (· = R) w w') (he : e = .returned (V a)) (hc : Rdr w' R B p' lim er q) : RGot R B lim V o w e w' := by subst h; exact ⟨hu, a, p', he, hc⟩

def nextO (bs : List UInt8) (lim : Int) (p : Nat) : Out UInt8 :=
  if rest lim p = 0 then .up p 2 else if h : p < bs.length then .ok bs[p] (p + 1) else .up p 1
theorem byte_next (bs : List UInt8) (lim : Int) (may : UInt8 → Int → Prop) (p : Nat) : byteO bs lim may p = match nextO bs lim p with
    | .up q e => .up q e
    | .ok x q => (open Classical in if may x (rest lim q) then .ok x q else .up p 2) := by
  unfold byteO nextO
  split
  · rfl
  · split <;> rfl

theorem size_list (B : ByteArray) : B.data.toList.length = B.size := by rw [Array.length_toList]; rfl

theorem rNext_any {w : World} {R : Nat} {B : ByteArray} {p : Nat} {lim : Int} (h : Rdr w R B p lim 0 0) (hi : Inv B.size lim p) :
    Calls Try.prog 30 #[.pointer (some ⟨R, 0, none⟩)] w (RGot R B lim cb (nextO B.data.toList lim p) w) := by
  have HI := hid hi
  have H0 := hid h
  have ip := hi.place
  have il := hi.len
  have hrr := hi.rest
  have HR := hid (rRest_any h hi)
  obtain ⟨r, hr⟩ : ∃ r, rest lim p = r := ⟨_, rfl⟩
  rw [hr] at HR hrr
  have c3 := h.c3
  have c1 := h.c1
  have hl := size_list B
  by_cases r0 : r = 0
  · have HO : Hid (nextO B.data.toList lim p = .up p 2) := by show _ = _; unfold nextO; rw [if_pos (hr.trans r0)]
    subst r0
    clear hi hr hrr hl
    go_enter Try.func30, Try.ntmps30
    go_wp2_with fail
    refine HR.out.mono ?_
    rintro e w1 ⟨rfl, hn⟩
    have h1 := H0.out.new hn
    have c11 := h1.c1
    have HG := hid (rGive_any h1 2 p)
    have HN := hid hn
    clear hn h1
    go_wp2_with fail
    refine HG.out.mono ?_
    rintro e w2 ⟨rfl, h2, u2⟩
    have H2 := hid h2
    have U2 := hid u2
    clear h2 u2
    go_wp2_with fail
    go_ret
    exact RGot.mk_up 0 HO.out (Upd.trans (New.upd HN.out) U2.out (fun _ _ h => h)) rfl H2.out
  · have hb : ¬ r ≤ 0 := by omega
    by_cases hp : p < B.size
    · have hr' : rest lim p ≠ 0 := by rw [hr]; exact r0
      have hpl : p < B.data.toList.length := by rw [hl]; exact hp
      obtain ⟨x, hx⟩ : ∃ x, B.data.toList[p] = x := ⟨_, rfl⟩
      have HO : Hid (nextO B.data.toList lim p = .ok x (p + 1)) := by show _ = _; unfold nextO; rw [if_neg hr', dif_pos hpl, hx]
      have HX := hid hx
      have hge : ¬ (B.size ≤ p) := by omega
      have hgi : ¬ ((B.size : Int) ≤ (p : Int)) := by omega
      clear hi hr hr' r0 hl hx
      go_enter Try.func30, Try.ntmps30
      go_wp2_with fail
      refine HR.out.mono ?_
      rintro e w1 ⟨rfl, hn⟩
      have h1 := H0.out.new hn
      have H1 := hid h1
      have HN := hid hn
      clear hn h1
      go_wp2_with fail
      have hn : New w1 w1.drew := (Upd.refl _ _).drew
      go_cut [26] (fun a wx => a = .bool false ∧ New w1 wx)
      case first =>
        refine wp_region_noPanic ?_
        refine wp_region_held_drew (S := (New w1)) (by kernel_rfl) (by first | exact hn | exact (Upd.refl _ _).drew | exact Upd.drew (by assumption)) (fun hn => ?_)
        refine wpAnyH_take (i := 0) (oi := { dst := some 17, op := Op.move (Operand.tmp 0), type := 33, pos := "ref.go:61", after := #[], guard := none }) (v := ?v1x1) rfl (by kernel_rfl) (by kernel_rfl) (by kernel_rfl) (fun _ _ _ h => h) (Or.inl ⟨by rfl, ?y1x1⟩) hn ?r1x1
        case y1x1 => (intro wS hS; (try go_simp); (try with_reducible rfl))
        try simp only [Act.put, List.setIfInBounds_toArray, List.set_cons_zero, List.set_cons_succ]
        refine wpAnyH_take (i := 1) (oi := { dst := some 18, op := Op.nilCheck (Operand.tmp 17), type := 0, pos := "ref.go:61", after := #[{ on := 0, ground := Ground.data }], guard := none }) (v := ?v1x2) rfl (by kernel_rfl) (by kernel_rfl) (by kernel_rfl) (fun _ _ _ h => h) (Or.inl ⟨by rfl, ?y1x2⟩) hn ?r1x2
        case y1x2 => (intro wS hS; (try go_simp); (try with_reducible rfl))
        try simp only [Act.put, List.setIfInBounds_toArray, List.set_cons_zero, List.set_cons_succ]
        refine wpAnyH_take (i := 2) (oi := { dst := some 19, op := Op.fieldAddr 37 (Operand.tmp 18) 1, type := 0, pos := "ref.go:61", after := #[{ on := 1, ground := Ground.data }], guard := none }) (v := ?v1x3) rfl (by kernel_rfl) (by kernel_rfl) (by kernel_rfl) (fun _ _ _ h => h) (Or.inl ⟨by rfl, ?y1x3⟩) hn ?r1x3
        case y1x3 => (intro wS hS; (try go_simp); (try with_reducible rfl))
        try simp only [Act.put, List.setIfInBounds_toArray, List.set_cons_zero, List.set_cons_succ]
        refine wpAnyH_take (i := 3) (oi := { dst := some 20, op := Op.load 3 (Operand.tmp 19), type := 3, pos := "ref.go:61", after := #[{ on := 2, ground := Ground.data }], guard := none }) (v := ?v1x4) rfl (by kernel_rfl) (by kernel_rfl) (by kernel_rfl) (fun _ _ _ h => h) (Or.inl ⟨by rfl, ?y1x4⟩) hn ?r1x4
        case y1x4 => (intro wS hS; have c := hS.cell H1.out.c1 (fun h => h); (try go_simp); (try with_reducible rfl))
        try simp only [Act.put, List.setIfInBounds_toArray, List.set_cons_zero, List.set_cons_succ]
        refine wpAnyH_take (i := 4) (oi := { dst := some 21, op := Op.move (Operand.tmp 0), type := 33, pos := "ref.go:61", after := #[], guard := none }) (v := ?v1x5) rfl (by kernel_rfl) (by kernel_rfl) (by kernel_rfl) (fun _ _ _ h => h) (Or.inl ⟨by rfl, ?y1x5⟩) hn ?r1x5
        case y1x5 => (intro wS hS; (try go_simp); (try with_reducible rfl))
        try simp only [Act.put, List.setIfInBounds_toArray, List.set_cons_zero, List.set_cons_succ]
        refine wpAnyH_take (i := 5) (oi := { dst := some 22, op := Op.nilCheck (Operand.tmp 21), type := 0, pos := "ref.go:61", after := #[{ on := 4, ground := Ground.data }], guard := none }) (v := ?v1x6) rfl (by kernel_rfl) (by kernel_rfl) (by kernel_rfl) (fun _ _ _ h => h) (Or.inl ⟨by rfl, ?y1x6⟩) hn ?r1x6
        case y1x6 => (intro wS hS; (try go_simp); (try with_reducible rfl))
        try simp only [Act.put, List.setIfInBounds_toArray, List.set_cons_zero, List.set_cons_succ]
        refine wpAnyH_take (i := 6) (oi := { dst := some 23, op := Op.fieldAddr 37 (Operand.tmp 22) 0, type := 0, pos := "ref.go:61", after := #[{ on := 5, ground := Ground.data }], guard := none }) (v := ?v1x7) rfl (by kernel_rfl) (by kernel_rfl) (by kernel_rfl) (fun _ _ _ h => h) (Or.inl ⟨by rfl, ?y1x7⟩) hn ?r1x7
        case y1x7 => (intro wS hS; (try go_simp); (try with_reducible rfl))
        try simp only [Act.put, List.setIfInBounds_toArray, List.set_cons_zero, List.set_cons_succ]
        refine wpAnyH_take (i := 7) (oi := { dst := some 24, op := Op.load 9 (Operand.tmp 23), type := 9, pos := "ref.go:61", after := #[{ on := 6, ground := Ground.data }], guard := none }) (v := ?v1x8) rfl (by kernel_rfl) (by kernel_rfl) (by kernel_rfl) (fun _ _ _ h => h) (Or.inl ⟨by rfl, ?y1x8⟩) hn ?r1x8
        case y1x8 => (intro wS hS; have c := hS.cell H1.out.c0 (fun h => h); (try go_simp); (try with_reducible rfl))
        try simp only [Act.put, List.setIfInBounds_toArray, List.set_cons_zero, List.set_cons_succ]
        refine wpAnyH_take (i := 8) (oi := { dst := some 25, op := Op.call { callee := Callee.builtin Builtin.len, args := #[Operand.tmp 24], argTypes := #[9] }, type := 3, pos := "ref.go:61", after := #[{ on := 7, ground := Ground.data }], guard := none }) (v := ?v1x9) rfl (by kernel_rfl) (by kernel_rfl) (by kernel_rfl) (fun _ _ _ h => h) (Or.inl ⟨by rfl, ?y1x9⟩) hn ?r1x9
        case y1x9 => (intro wS hS; (try go_simp); (try with_reducible rfl))
        try simp only [Act.put, List.setIfInBounds_toArray, List.set_cons_zero, List.set_cons_succ]
        refine wpAnyH_take (i := 9) (oi := { dst := some 26, op := Op.binOp BinOp.geq 3 (Operand.tmp 20) (Operand.tmp 25) 3, type := 4, pos := "ref.go:61", after := #[{ on := 3, ground := Ground.data }, { on := 8, ground := Ground.data }], guard := none }) (v := ?v1x10) rfl (by kernel_rfl) (by kernel_rfl) (by kernel_rfl) (fun _ _ _ h => h) (Or.inl ⟨by rfl, ?y1x10⟩) hn ?r1x10
        case y1x10 => (intro wS hS; (try go_simp); (try with_reducible rfl))
        try simp only [Act.put, List.setIfInBounds_toArray, List.set_cons_zero, List.set_cons_succ]
        refine wpAnyH_done (by kernel_rfl) ?_ _
        refine NoPanic.normal ?_
        go_wp2_with fail
        go_meet
        exact ⟨by first | rfl | (congr 1; exact decide_eq_false (by omega)), hn⟩
      case rest =>
        obtain ⟨rfl, hw⟩ := hcut
        obtain ⟨w2, rfl⟩ : ∃ w2, w2 = wc := ⟨_, rfl⟩
        have h2 := H1.out.new hw
        have H2 := hid h2
        have c1 := h2.c1
        have f1 := h2.f 1
        obtain ⟨q, hq⟩ : ∃ q, p + 1 = q := ⟨_, rfl⟩
        have hqi : (p : Int) + 1 = (q : Int) := by omega
        have hqq : IntKind.i64.wrap ((q : Int) - 1) = (p : Int) := by rw [IntWalk.i64_in _ (by omega)]; omega
        rw [hq] at HO
        have HQQ := hid hqq
        have h3 := h2.at1 q
        have u3 := updR w2 R 1 (.int .i64 q)
        obtain ⟨w3, hw3⟩ : ∃ w3, w2.setCell ⟨R, 1, none⟩ (.int .i64 q) = w3 := ⟨_, rfl⟩
        rw [hw3] at h3 u3
        have H3 := hid h3
        have U3 := hid (Upd.trans (New.upd (New.trans HN.out hw)) u3 (T := (· = R)) (fun _ _ h => h))
        clear hw h2 h3 u3 hn hq hqq
        go_upto_region 10 with fail
        clear c1 f1 hw3 hqi
        have hn : New w3 w3.drew := (Upd.refl _ _).drew
        have hqq := HQQ.out
        refine wp_region_noPanic ?_
        refine wp_region_held_drew (S := (New w3)) (by kernel_rfl) (by first | exact hn | exact (Upd.refl _ _).drew | exact Upd.drew (by assumption)) (fun hn => ?_)
        refine wpAnyH_take (i := 0) (oi := { dst := some 42, op := Op.move (Operand.tmp 0), type := 33, pos := "ref.go:66", after := #[], guard := none }) (v := ?v2x1) rfl (by kernel_rfl) (by kernel_rfl) (by kernel_rfl) (fun _ _ _ h => h) (Or.inl ⟨by rfl, ?y2x1⟩) hn ?r2x1
        case y2x1 => (intro wS hS; (try go_simp); (try with_reducible rfl))
        try simp only [Act.put, List.setIfInBounds_toArray, List.set_cons_zero, List.set_cons_succ]
        refine wpAnyH_take (i := 1) (oi := { dst := some 43, op := Op.nilCheck (Operand.tmp 42), type := 0, pos := "ref.go:66", after := #[{ on := 0, ground := Ground.data }], guard := none }) (v := ?v2x2) rfl (by kernel_rfl) (by kernel_rfl) (by kernel_rfl) (fun _ _ _ h => h) (Or.inl ⟨by rfl, ?y2x2⟩) hn ?r2x2
        case y2x2 => (intro wS hS; (try go_simp); (try with_reducible rfl))
        try simp only [Act.put, List.setIfInBounds_toArray, List.set_cons_zero, List.set_cons_succ]
        refine wpAnyH_take (i := 2) (oi := { dst := some 44, op := Op.fieldAddr 37 (Operand.tmp 43) 0, type := 0, pos := "ref.go:66", after := #[{ on := 1, ground := Ground.data }], guard := none }) (v := ?v2x3) rfl (by kernel_rfl) (by kernel_rfl) (by kernel_rfl) (fun _ _ _ h => h) (Or.inl ⟨by rfl, ?y2x3⟩) hn ?r2x3
        case y2x3 => (intro wS hS; (try go_simp); (try with_reducible rfl))
        try simp only [Act.put, List.setIfInBounds_toArray, List.set_cons_zero, List.set_cons_succ]
        refine wpAnyH_take (i := 3) (oi := { dst := some 45, op := Op.load 9 (Operand.tmp 44), type := 9, pos := "ref.go:66", after := #[{ on := 2, ground := Ground.data }], guard := none }) (v := ?v2x4) rfl (by kernel_rfl) (by kernel_rfl) (by kernel_rfl) (fun _ _ _ h => h) (Or.inl ⟨by rfl, ?y2x4⟩) hn ?r2x4
        case y2x4 => (intro wS hS; have c := hS.cell H3.out.c0 (fun h => h); (try go_simp); (try with_reducible rfl))
        try simp only [Act.put, List.setIfInBounds_toArray, List.set_cons_zero, List.set_cons_succ]
        refine wpAnyH_take (i := 4) (oi := { dst := some 46, op := Op.move (Operand.tmp 0), type := 33, pos := "ref.go:66", after := #[], guard := none }) (v := ?v2x5) rfl (by kernel_rfl) (by kernel_rfl) (by kernel_rfl) (fun _ _ _ h => h) (Or.inl ⟨by rfl, ?y2x5⟩) hn ?r2x5
        case y2x5 => (intro wS hS; (try go_simp); (try with_reducible rfl))
        try simp only [Act.put, List.setIfInBounds_toArray, List.set_cons_zero, List.set_cons_succ]
        refine wpAnyH_take (i := 5) (oi := { dst := some 47, op := Op.nilCheck (Operand.tmp 46), type := 0, pos := "ref.go:66", after := #[{ on := 4, ground := Ground.data }], guard := none }) (v := ?v2x6) rfl (by kernel_rfl) (by kernel_rfl) (by kernel_rfl) (fun _ _ _ h => h) (Or.inl ⟨by rfl, ?y2x6⟩) hn ?r2x6
        case y2x6 => (intro wS hS; (try go_simp); (try with_reducible rfl))
        try simp only [Act.put, List.setIfInBounds_toArray, List.set_cons_zero, List.set_cons_succ]
        refine wpAnyH_take (i := 6) (oi := { dst := some 48, op := Op.fieldAddr 37 (Operand.tmp 47) 1, type := 0, pos := "ref.go:66", after := #[{ on := 5, ground := Ground.data }], guard := none }) (v := ?v2x7) rfl (by kernel_rfl) (by kernel_rfl) (by kernel_rfl) (fun _ _ _ h => h) (Or.inl ⟨by rfl, ?y2x7⟩) hn ?r2x7
        case y2x7 => (intro wS hS; (try go_simp); (try with_reducible rfl))
        try simp only [Act.put, List.setIfInBounds_toArray, List.set_cons_zero, List.set_cons_succ]
        refine wpAnyH_take (i := 7) (oi := { dst := some 49, op := Op.load 3 (Operand.tmp 48), type := 3, pos := "ref.go:66", after := #[{ on := 6, ground := Ground.data }], guard := none }) (v := ?v2x8) rfl (by kernel_rfl) (by kernel_rfl) (by kernel_rfl) (fun _ _ _ h => h) (Or.inl ⟨by rfl, ?y2x8⟩) hn ?r2x8
        case y2x8 => (intro wS hS; have c := hS.cell H3.out.c1 (fun h => h); (try go_simp); (try with_reducible rfl))
        try simp only [Act.put, List.setIfInBounds_toArray, List.set_cons_zero, List.set_cons_succ]
        refine wpAnyH_take (i := 8) (oi := { dst := some 50, op := Op.binOp BinOp.sub 3 (Operand.tmp 49) (Operand.const (Value.int IntKind.i64 1)) 3, type := 3, pos := "ref.go:66", after := #[{ on := 7, ground := Ground.data }], guard := none }) (v := ?v2x9) rfl (by kernel_rfl) (by kernel_rfl) (by kernel_rfl) (fun _ _ _ h => h) (Or.inl ⟨by rfl, ?y2x9⟩) hn ?r2x9
        case y2x9 => (intro wS hS; (try go_simp); (try with_reducible rfl))
        try simp only [Act.put, List.setIfInBounds_toArray, List.set_cons_zero, List.set_cons_succ]
        refine wpAnyH_ready (rs := [9]) (by kernel_rfl) (by simp) ?_
        refine AllReadyH.cons (o := { dst := some 51, op := Op.index 9 (Operand.tmp 45) (Operand.tmp 50), type := 5, pos := "ref.go:66", after := #[{ on := 3, ground := Ground.data }, { on := 8, ground := Ground.data }], guard := none }) rfl (fun K hK => ?_) AllReadyH.nil
        go_simp
        refine hK.out _ _ (by first | exact hn | exact Upd.alloc hn _) (fun hn => ?_)
        clear hK K
        try simp only [Act.put, List.setIfInBounds_toArray, List.set_cons_zero, List.set_cons_succ]
        refine wpAnyH_take (i := 10) (oi := { dst := some 2, op := Op.assign (Operand.tmp 51), type := 5, pos := "ref.go:66", after := #[{ on := 9, ground := Ground.data }, { on := 0, ground := Ground.phase }, { on := 1, ground := Ground.phase }, { on := 2, ground := Ground.phase }, { on := 3, ground := Ground.phase }, { on := 4, ground := Ground.phase }, { on := 5, ground := Ground.phase }, { on := 6, ground := Ground.phase }, { on := 7, ground := Ground.phase }, { on := 8, ground := Ground.phase }, { on := 9, ground := Ground.phase }], guard := none }) (v := ?v2x10) rfl (by kernel_rfl) (by kernel_rfl) (by kernel_rfl) (fun _ _ _ h => h) (Or.inl ⟨by rfl, ?y2x10⟩) hn ?r2x10
        case y2x10 => (intro wS hS; (try go_simp); (try with_reducible rfl))
        try simp only [Act.put, List.setIfInBounds_toArray, List.set_cons_zero, List.set_cons_succ]
        refine wpAnyH_done (by kernel_rfl) ?_ _
        refine NoPanic.normal ?_
        go_wp2_with fail
        go_ret
        refine RGot.mk_ok HO.out (U3.out.thenNew hn) ?_ (H3.out.new hn)
        rw [← HX.out]
        rfl
    · have hpl : ¬ p < B.data.toList.length := by rw [hl]; exact hp
      have HO : Hid (nextO B.data.toList lim p = .up p 1) := by show _ = _; unfold nextO; rw [if_neg (by rw [hr]; exact r0), dif_neg hpl]
      have hps : B.size = p := by omega
      have hgi : (B.size : Int) ≤ (p : Int) := by omega
      have hge : B.size ≤ p := by omega
      have HPS := hid hps
      clear hi hr r0 hl hpl hps hp
      go_enter Try.func30, Try.ntmps30
      go_wp2_with fail
      refine HR.out.mono ?_
      rintro e w1 ⟨rfl, hn⟩
      have h1 := H0.out.new hn
      have H1 := hid h1
      have HN := hid hn
      clear hn h1
      go_wp2_with fail
      have hn : New w1 w1.drew := (Upd.refl _ _).drew
      go_cut [26] (fun a wx => a = .bool true ∧ New w1 wx)
      case first =>
        refine wp_region_noPanic ?_
        refine wp_region_held_drew (S := (New w1)) (by kernel_rfl) (by first | exact hn | exact (Upd.refl _ _).drew | exact Upd.drew (by assumption)) (fun hn => ?_)
        refine wpAnyH_take (i := 0) (oi := { dst := some 17, op := Op.move (Operand.tmp 0), type := 33, pos := "ref.go:61", after := #[], guard := none }) (v := ?v3x1) rfl (by kernel_rfl) (by kernel_rfl) (by kernel_rfl) (fun _ _ _ h => h) (Or.inl ⟨by rfl, ?y3x1⟩) hn ?r3x1
        case y3x1 => (intro wS hS; (try go_simp); (try with_reducible rfl))
        try simp only [Act.put, List.setIfInBounds_toArray, List.set_cons_zero, List.set_cons_succ]
        refine wpAnyH_take (i := 1) (oi := { dst := some 18, op := Op.nilCheck (Operand.tmp 17), type := 0, pos := "ref.go:61", after := #[{ on := 0, ground := Ground.data }], guard := none }) (v := ?v3x2) rfl (by kernel_rfl) (by kernel_rfl) (by kernel_rfl) (fun _ _ _ h => h) (Or.inl ⟨by rfl, ?y3x2⟩) hn ?r3x2
        case y3x2 => (intro wS hS; (try go_simp); (try with_reducible rfl))
        try simp only [Act.put, List.setIfInBounds_toArray, List.set_cons_zero, List.set_cons_succ]
        refine wpAnyH_take (i := 2) (oi := { dst := some 19, op := Op.fieldAddr 37 (Operand.tmp 18) 1, type := 0, pos := "ref.go:61", after := #[{ on := 1, ground := Ground.data }], guard := none }) (v := ?v3x3) rfl (by kernel_rfl) (by kernel_rfl) (by kernel_rfl) (fun _ _ _ h => h) (Or.inl ⟨by rfl, ?y3x3⟩) hn ?r3x3
        case y3x3 => (intro wS hS; (try go_simp); (try with_reducible rfl))
        try simp only [Act.put, List.setIfInBounds_toArray, List.set_cons_zero, List.set_cons_succ]
        refine wpAnyH_take (i := 3) (oi := { dst := some 20, op := Op.load 3 (Operand.tmp 19), type := 3, pos := "ref.go:61", after := #[{ on := 2, ground := Ground.data }], guard := none }) (v := ?v3x4) rfl (by kernel_rfl) (by kernel_rfl) (by kernel_rfl) (fun _ _ _ h => h) (Or.inl ⟨by rfl, ?y3x4⟩) hn ?r3x4
        case y3x4 => (intro wS hS; have c := hS.cell H1.out.c1 (fun h => h); (try go_simp); (try with_reducible rfl))
        try simp only [Act.put, List.setIfInBounds_toArray, List.set_cons_zero, List.set_cons_succ]
        refine wpAnyH_take (i := 4) (oi := { dst := some 21, op := Op.move (Operand.tmp 0), type := 33, pos := "ref.go:61", after := #[], guard := none }) (v := ?v3x5) rfl (by kernel_rfl) (by kernel_rfl) (by kernel_rfl) (fun _ _ _ h => h) (Or.inl ⟨by rfl, ?y3x5⟩) hn ?r3x5
        case y3x5 => (intro wS hS; (try go_simp); (try with_reducible rfl))
        try simp only [Act.put, List.setIfInBounds_toArray, List.set_cons_zero, List.set_cons_succ]
        refine wpAnyH_take (i := 5) (oi := { dst := some 22, op := Op.nilCheck (Operand.tmp 21), type := 0, pos := "ref.go:61", after := #[{ on := 4, ground := Ground.data }], guard := none }) (v := ?v3x6) rfl (by kernel_rfl) (by kernel_rfl) (by kernel_rfl) (fun _ _ _ h => h) (Or.inl ⟨by rfl, ?y3x6⟩) hn ?r3x6
        case y3x6 => (intro wS hS; (try go_simp); (try with_reducible rfl))
        try simp only [Act.put, List.setIfInBounds_toArray, List.set_cons_zero, List.set_cons_succ]
        refine wpAnyH_take (i := 6) (oi := { dst := some 23, op := Op.fieldAddr 37 (Operand.tmp 22) 0, type := 0, pos := "ref.go:61", after := #[{ on := 5, ground := Ground.data }], guard := none }) (v := ?v3x7) rfl (by kernel_rfl) (by kernel_rfl) (by kernel_rfl) (fun _ _ _ h => h) (Or.inl ⟨by rfl, ?y3x7⟩) hn ?r3x7
        case y3x7 => (intro wS hS; (try go_simp); (try with_reducible rfl))
        try simp only [Act.put, List.setIfInBounds_toArray, List.set_cons_zero, List.set_cons_succ]
        refine wpAnyH_take (i := 7) (oi := { dst := some 24, op := Op.load 9 (Operand.tmp 23), type := 9, pos := "ref.go:61", after := #[{ on := 6, ground := Ground.data }], guard := none }) (v := ?v3x8) rfl (by kernel_rfl) (by kernel_rfl) (by kernel_rfl) (fun _ _ _ h => h) (Or.inl ⟨by rfl, ?y3x8⟩) hn ?r3x8
        case y3x8 => (intro wS hS; have c := hS.cell H1.out.c0 (fun h => h); (try go_simp); (try with_reducible rfl))
        try simp only [Act.put, List.setIfInBounds_toArray, List.set_cons_zero, List.set_cons_succ]
        refine wpAnyH_take (i := 8) (oi := { dst := some 25, op := Op.call { callee := Callee.builtin Builtin.len, args := #[Operand.tmp 24], argTypes := #[9] }, type := 3, pos := "ref.go:61", after := #[{ on := 7, ground := Ground.data }], guard := none }) (v := ?v3x9) rfl (by kernel_rfl) (by kernel_rfl) (by kernel_rfl) (fun _ _ _ h => h) (Or.inl ⟨by rfl, ?y3x9⟩) hn ?r3x9
        case y3x9 => (intro wS hS; (try go_simp); (try with_reducible rfl))
        try simp only [Act.put, List.setIfInBounds_toArray, List.set_cons_zero, List.set_cons_succ]
        refine wpAnyH_take (i := 9) (oi := { dst := some 26, op := Op.binOp BinOp.geq 3 (Operand.tmp 20) (Operand.tmp 25) 3, type := 4, pos := "ref.go:61", after := #[{ on := 3, ground := Ground.data }, { on := 8, ground := Ground.data }], guard := none }) (v := ?v3x10) rfl (by kernel_rfl) (by kernel_rfl) (by kernel_rfl) (fun _ _ _ h => h) (Or.inl ⟨by rfl, ?y3x10⟩) hn ?r3x10
        case y3x10 => (intro wS hS; (try go_simp); (try with_reducible rfl))
        try simp only [Act.put, List.setIfInBounds_toArray, List.set_cons_zero, List.set_cons_succ]
        refine wpAnyH_done (by kernel_rfl) ?_ _
        refine NoPanic.normal ?_
        go_wp2_with fail
        go_meet
        exact ⟨by first | rfl | (congr 1; exact decide_eq_true (by omega)), hn⟩
      case rest =>
        obtain ⟨rfl, hw⟩ := hcut
        obtain ⟨w2, rfl⟩ : ∃ w2, w2 = wc := ⟨_, rfl⟩
        have h2 := H1.out.new hw
        have H2 := hid h2
        have c0 := h2.c0
        have HW := hid (New.trans HN.out hw)
        have HG := hid (rGive_any h2 1 B.size)
        clear hw h2 hn
        go_wp2_with fail
        refine HG.out.mono ?_
        rintro e w3 ⟨rfl, h3, u3⟩
        have H3 := hid h3
        have U3 := hid u3
        clear h3 u3
        go_wp2_with fail
        go_ret
        have h3 := H3.out
        rw [HPS.out] at h3
        exact RGot.mk_up 0 HO.out (Upd.trans (New.upd HW.out) U3.out (fun _ _ h => h)) rfl h3
theorem rNext_gone {w : World} {R : Nat} {B : ByteArray} {p : Nat} {lim : Int} {er sp : Nat} (h : Rdr w R B p lim er sp) (he : er ≠ 0) :
    Calls Try.prog 30 #[.pointer (some ⟨R, 0, none⟩)] w fun e w' => e = .returned (cb 0) ∧ w = w' := by
  have c3 := h.c3
  have hb : ((er : Int) != 0) = true := by rw [bne_iff_ne]; omega
  go_enter Try.func30, Try.ntmps30
  go_wp2
  go_ret
  exact ⟨rfl, rfl⟩

theorem rEnter_any {w : World} {R : Nat} {B : ByteArray} {p : Nat} {lim : Int} {er sp : Nat} (h : Rdr w R B p lim er sp) (hi : Inv B.size lim p) (n : Int) (hn1 : -9223372036854775808 ≤ n) (hn2 : n ≤ 9223372036854775807) :
    Calls Try.prog 36 #[.pointer (some ⟨R, 0, none⟩), .int .i64 n] w fun e w' => e = .returned (.int .i64 lim) ∧ Rdr w' R B p (p + min (max n 0) (rest lim p)) er sp ∧ Upd (· = R) w w' := by
  have ip := hi.place
  have il := hi.len
  have hrr := hi.rest
  have HRR : Hid (∀ w2, New w w2 → Calls Try.prog 38 #[.pointer (some ⟨R, 0, none⟩)] w2 fun e w' => e = .returned (.int .i64 (rest lim p)) ∧ New w2 w') := fun w2 hn => rRest_any (h.new hn) hi
  have H0 := hid h
  obtain ⟨r, hr⟩ : ∃ r, rest lim p = r := ⟨_, rfl⟩
  rw [hr] at HRR hrr ⊢
  have c2 := h.c2
  have hc : n < 0 ∨ (0 ≤ n ∧ r < n) ∨ (0 ≤ n ∧ n ≤ r) := by omega
  rcases hc with hc | ⟨hc1, hc⟩ | ⟨hc1, hc⟩
  · have HM : Hid ((p : Int) + min (max n 0) r = p) := by show _ = _; omega
    have hz : ¬ r < 0 := by omega
    clear hi hr h
    go_enter Try.func36, Try.ntmps36
    go_wp2_with fail
    refine (HRR.out _ (Upd.refl _ _)).mono ?_
    rintro e w1 ⟨rfl, hn⟩
    have h1 := H0.out.new hn
    have H2 := hid (h1.lim2 p)
    have U2 := hid (Upd.trans (New.upd hn) (updR w1 R 2 (.int .i64 p)) (T := (· = R)) (fun _ _ h => h))
    have c1 := h1.c1
    have c2 := h1.c2
    have f2 := h1.f 2
    clear h1 hn
    go_wp2_with fail
    go_ret
    rw [HM.out]
    exact ⟨rfl, H2.out, U2.out⟩
  · have HM : Hid ((p : Int) + min (max n 0) r = p + r) := by show _ = _; omega
    have hz : ¬ n < 0 := by omega
    clear hi hr h
    go_enter Try.func36, Try.ntmps36
    go_wp2_with fail
    refine (HRR.out _ (Upd.refl _ _)).mono ?_
    rintro e w1 ⟨rfl, hn⟩
    have HN := hid hn
    clear hn
    go_wp2_with fail
    refine (HRR.out _ HN.out).mono ?_
    rintro e w2 ⟨rfl, hn⟩
    have h1 := H0.out.new (New.trans HN.out hn)
    have H2 := hid (h1.lim2 (p + r))
    have U2 := hid (Upd.trans (New.upd (New.trans HN.out hn)) (updR w2 R 2 (.int .i64 (p + r))) (T := (· = R)) (fun _ _ h => h))
    have c1 := h1.c1
    have c2 := h1.c2
    have f2 := h1.f 2
    clear h1 hn
    go_wp2_with fail
    go_ret
    rw [HM.out]
    exact ⟨rfl, H2.out, U2.out⟩
  · have HM : Hid ((p : Int) + min (max n 0) r = p + n) := by show _ = _; omega
    have hz : ¬ n < 0 := by omega
    clear hi hr h
    go_enter Try.func36, Try.ntmps36
    go_wp2_with fail
    refine (HRR.out _ (Upd.refl _ _)).mono ?_
    rintro e w1 ⟨rfl, hn⟩
    have h1 := H0.out.new hn
    have H2 := hid (h1.lim2 (p + n))
    have U2 := hid (Upd.trans (New.upd hn) (updR w1 R 2 (.int .i64 (p + n))) (T := (· = R)) (fun _ _ h => h))
    have c1 := h1.c1
    have c2 := h1.c2
    have f2 := h1.f 2
    clear h1 hn
    go_wp2_with fail
    go_ret
    rw [HM.out]
    exact ⟨rfl, H2.out, U2.out⟩
end Go.Proofs.Ytkfohickmdkplaa
