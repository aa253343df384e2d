/-
  Blocks of one cell.
-/
import Derived.Test.YtkfohickmdkplaaJ0
import Derived.Test.YtkfohickmdkplaaChecked
import Derived.Deep.QuietTactic
import Derived.BigQuiet
import Derived.Deep.RegionHeld3
import Derived.Deep.DeepCutAuto
import Derived.WalkMore
namespace Go.Proofs.Own
open Go Go.RowKit
theorem Upd.thenNew {S : Nat → Prop} {a b c : World} (h : Upd S a b) (k : New b c) : Upd S a c := h.trans (New.upd k) (T := S) (fun _ _ h => h)
/-- a block of one cell -/
def One1 (w : World) (g : Nat) (v : Value) : Prop := ∃ t, w.heap[g]? = some (.cells #[v] t)
theorem One1.lt {w : World} {g : Nat} {v : Value} (h : One1 w g v) : g < w.heap.size := by obtain ⟨t, h⟩ := h; exact (Array.getElem?_eq_some_iff.1 h).1
theorem One1.c {w : World} {g : Nat} {v : Value} (h : One1 w g v) : w.cell? ⟨g, 0, none⟩ = some v := by obtain ⟨t, h⟩ := h; rw [cell_of_row _ g 0 _ t (0, 0) h]; rfl
theorem One1.f {w : World} {g : Nat} {v : Value} (h : One1 w g v) : w.frozen? ⟨g, 0, none⟩ = false := by obtain ⟨t, h⟩ := h; simp [World.frozen?, h]
theorem One1.mk {w : World} {v : Value} {t : TypeId} {k : Nat} (h : k = w.heap.size) : One1 (w.alloc (.cells #[v] t)) k v := ⟨t, hp_new h⟩
theorem One1.upd {S : Nat → Prop} {w w' : World} {g : Nat} {v : Value} (h : One1 w g v) (hu : Upd S w w') (hn : ¬ S g) : One1 w' g v := by
  have hl := h.lt
  obtain ⟨t, h⟩ := h
  exact ⟨t, (hu.block g hl hn).trans h⟩
theorem One1.new {w w' : World} {g : Nat} {v : Value} (h : One1 w g v) (hn : New w w') : One1 w' g v := h.upd hn (fun h => h)
theorem One1.put {w : World} {g : Nat} {u v : Value} (h : One1 w g u) : One1 (w.setCell ⟨g, 0, none⟩ v) g v := by
  obtain ⟨t, h⟩ := h
  exact ⟨t, by simp [World.setCell, Array.getElem?_modify, h]⟩
theorem One1.other {w : World} {g : Nat} {p : Addr} {u v : Value} (h : One1 w g u) (hn : g ≠ p.block) : One1 (w.setCell p v) g u := by
  obtain ⟨t, h⟩ := h
  exact ⟨t, by rw [Below.heap_setCell _ _ _ _ hn]; exact h⟩
theorem One1.drew {w : World} {g : Nat} {v : Value} (h : One1 w g v) : One1 w.drew g v := h
theorem One1.push {w : World} {g : Nat} {v : Value} (h : One1 w g v) (o : Obj) : One1 (w.alloc o) g v := h.new ((Upd.refl _ _).alloc _)
theorem alloc1Step {K : Act → World → Prop} {a : Act} {S W : World} {x : Value} {t : TypeId} (hn : New S W)
    (h : ∀ W2, New W W2 → New S W2 → One1 W2 W.heap.size x → K a W2) : K a (W.alloc (.cells #[x] t)) :=
  h _ ((Upd.refl _ _).alloc _) (hn.alloc _) (.mk rfl)
theorem store1Step {K : Act → World → Prop} {a : Act} {S W : World} {g : Nat} {u x : Value} (hn : New S W) (hz : One1 W g u) (hf : S.heap.size ≤ g)
    (h : ∀ W2, New S W2 → One1 W2 g x → (∀ g' v, g' ≠ g → One1 W g' v → One1 W2 g' v) → K a W2) : K a (W.setCell ⟨g, 0, none⟩ x) :=
  h _ (hn.setCell (.inl hf) _) hz.put (fun g' v hne hv => hv.other hne)
end Go.Proofs.Own

namespace Go.Proofs.Ytkfohickmdkplaa
open Go.RowKit Go.Proofs.Own
/-- it answers whether something is so -/
def Yes (q : Prop) (w : World) (e : Ending) (w' : World) : Prop := ∃ b, e = .returned (.bool b) ∧ (b = true ↔ q) ∧ New w w'
end Go.Proofs.Ytkfohickmdkplaa

namespace Go.Proofs.Ytkfohickmdkplaa
open Go.RowKit Go.Proofs.Leb Go.Proofs.Own Go.Proofs.Cur
set_option maxRecDepth 100000
set_option maxHeartbeats 2000000

/-- the document's reader in its block -/
def Rdr (w : World) (R : Nat) (B : ByteArray) (p : Nat) (lim : Int) (er sp : Nat) : Prop :=
  w.heap[R]? = some (.cells #[.string B, .int .i64 p, .int .i64 lim, .int .i64 er, .int .i64 sp] 37)

theorem Rdr.lt {w : World} {R : Nat} {B : ByteArray} {p : Nat} {lim : Int} {er sp : Nat} (h : Rdr w R B p lim er sp) : R < w.heap.size := (Array.getElem?_eq_some_iff.1 h).1
theorem Rdr.c0 {w : World} {R : Nat} {B : ByteArray} {p : Nat} {lim : Int} {er sp : Nat} (h : Rdr w R B p lim er sp) : w.cell? ⟨R, 0, none⟩ = some (.string B) := by rw [cell_of_row _ R 0 _ _ (0, 0) h]; rfl
theorem Rdr.c1 {w : World} {R : Nat} {B : ByteArray} {p : Nat} {lim : Int} {er sp : Nat} (h : Rdr w R B p lim er sp) : w.cell? ⟨R, 1, none⟩ = some (.int .i64 p) := by rw [cell_of_row _ R 1 _ _ (0, 0) h]; rfl
theorem Rdr.c2 {w : World} {R : Nat} {B : ByteArray} {p : Nat} {lim : Int} {er sp : Nat} (h : Rdr w R B p lim er sp) : w.cell? ⟨R, 2, none⟩ = some (.int .i64 lim) := by rw [cell_of_row _ R 2 _ _ (0, 0) h]; rfl
theorem Rdr.c3 {w : World} {R : Nat} {B : ByteArray} {p : Nat} {lim : Int} {er sp : Nat} (h : Rdr w R B p lim er sp) : w.cell? ⟨R, 3, none⟩ = some (.int .i64 er) := by rw [cell_of_row _ R 3 _ _ (0, 0) h]; rfl
theorem Rdr.c4 {w : World} {R : Nat} {B : ByteArray} {p : Nat} {lim : Int} {er sp : Nat} (h : Rdr w R B p lim er sp) : w.cell? ⟨R, 4, none⟩ = some (.int .i64 sp) := by rw [cell_of_row _ R 4 _ _ (0, 0) h]; rfl
theorem Rdr.f {w : World} {R : Nat} {B : ByteArray} {p : Nat} {lim : Int} {er sp : Nat} (h : Rdr w R B p lim er sp) (i : Nat) : w.frozen? ⟨R, i, none⟩ = false := by unfold Rdr at h; simp [World.frozen?, h]
theorem Rdr.upd {w w' : World} {R : Nat} {B : ByteArray} {p : Nat} {lim : Int} {er sp : Nat} {S : Nat → Prop} (h : Rdr w R B p lim er sp) (hu : Upd S w w') (hR : ¬ S R) : Rdr w' R B p lim er sp :=
  (hu.block R h.lt hR).trans h
theorem Rdr.new {w w' : World} {R : Nat} {B : ByteArray} {p : Nat} {lim : Int} {er sp : Nat} (h : Rdr w R B p lim er sp) (hn : New w w') : Rdr w' R B p lim er sp := h.upd hn (fun h => h)
theorem Rdr.at1 {w : World} {R : Nat} {B : ByteArray} {p : Nat} {lim : Int} {er sp : Nat} (h : Rdr w R B p lim er sp) (q : Nat) : Rdr (w.setCell ⟨R, 1, none⟩ (.int .i64 q)) R B q lim er sp := by
  unfold Rdr at h ⊢; simp [World.setCell, Array.getElem?_modify, h]
theorem Rdr.lim2 {w : World} {R : Nat} {B : ByteArray} {p : Nat} {lim : Int} {er sp : Nat} (h : Rdr w R B p lim er sp) (q : Int) : Rdr (w.setCell ⟨R, 2, none⟩ (.int .i64 q)) R B p q er sp := by
  unfold Rdr at h ⊢; simp [World.setCell, Array.getElem?_modify, h]
theorem Rdr.give {w : World} {R : Nat} {B : ByteArray} {p : Nat} {lim : Int} {er sp : Nat} (h : Rdr w R B p lim er sp) (e q : Nat) :
    Rdr ((w.setCell ⟨R, 3, none⟩ (.int .i64 e)).setCell ⟨R, 4, none⟩ (.int .i64 q)) R B p lim e q := by
  unfold Rdr at h ⊢; simp [World.setCell, Array.getElem?_modify, h]
theorem updR (w : World) (R i : Nat) (u : Value) : Upd (· = R) w (w.setCell ⟨R, i, none⟩ u) := (Upd.refl (· = R) w).setCell (p := ⟨R, i, none⟩) (.inr rfl) u

theorem rRest_any {w : World} {R : Nat} {B : ByteArray} {p : Nat} {lim : Int} {er sp : Nat} (h : Rdr w R B p lim er sp) (hi : Inv B.size lim p) :
    Calls Try.prog 38 #[.pointer (some ⟨R, 0, none⟩)] w fun e w' => e = .returned (.int .i64 (rest lim p)) ∧ New w w' := by
  have c1 := h.c1
  have c2 := h.c2
  have i1 := hi.place
  have i2 := hi.len
  have i3 := hi.lim
  by_cases hl : lim = -1
  · subst hl
    go_enter Try.func38, Try.ntmps38
    go_wp2
    go_ret
    exact ⟨rfl, Upd.refl _ _⟩
  · have hb : ¬ lim < 0 := by omega
    have e : rest lim p = lim - p := by unfold rest; rw [if_neg hl]
    have HE := hid e
    have l1 : (p : Int) ≤ lim := by omega
    have l2 : lim ≤ p + 1099511627776 := by omega
    clear i3 hl e
    go_enter Try.func38, Try.ntmps38
    go_wp2_with fail
    go_quiet (fail)
    go_wp2_with fail
    go_ret
    exact ⟨by rw [HE.out]; rfl, ⟨rfl, rfl, rfl, Nat.le_refl _, fun _ _ _ => rfl⟩⟩
/-- what is left behind n more bytes, as the document reckons it -/
def behD (lim : Int) (p : Nat) (n : Int) : Int := if lim = -1 then 1099511627776 else rest lim p - n
theorem rBehind_any {w : World} {R : Nat} {B : ByteArray} {p : Nat} {lim : Int} {er sp : Nat} (h : Rdr w R B p lim er sp) (hi : Inv B.size lim p) (n : Int) (hn1 : 0 ≤ n) (hn2 : n ≤ 1000) :
    Calls Try.prog 64 #[.pointer (some ⟨R, 0, none⟩), .int .i64 n] w fun e w' => e = .returned (.int .i64 (behD lim p n)) ∧ New w w' := by
  have c2 := h.c2
  have hr := hi.rest
  have i3 := hi.lim
  by_cases hl : lim = -1
  · subst hl
    go_enter Try.func64, Try.ntmps64
    go_wp2_with fail
    go_ret
    exact ⟨rfl, Upd.refl _ _⟩
  · have hb : ¬ lim < 0 := by omega
    have e : behD lim p n = rest lim p - n := by unfold behD; rw [if_neg hl]
    have HR := hid (rRest_any h hi)
    generalize rest lim p = r at *
    have HE := hid e
    clear i3 hl e hi
    go_enter Try.func64, Try.ntmps64
    go_wp2_with fail
    refine HR.out.mono ?_
    rintro e w1 ⟨rfl, hn⟩
    have HN := hid hn
    clear hn
    go_wp2_with fail
    go_ret
    exact ⟨by rw [HE.out]; rfl, HN.out⟩

theorem rGive_any {w : World} {R : Nat} {B : ByteArray} {p : Nat} {lim : Int} {sp : Nat} (h : Rdr w R B p lim 0 sp) (e q : Nat) :
    Calls Try.prog 61 #[.pointer (some ⟨R, 0, none⟩), .int .i64 e, .int .i64 q] w fun en w' => en = .returned (.tuple #[]) ∧ Rdr w' R B p lim e q ∧ Upd (· = R) w w' := by
  have c3 := h.c3
  have c4 := h.c4
  have f3 := h.f 3
  have f4 := h.f 4
  have HG := hid (h.give e q)
  have HU : Hid (Upd (· = R) w ((w.setCell ⟨R, 3, none⟩ (.int .i64 e)).setCell ⟨R, 4, none⟩ (.int .i64 q))) := (updR w R 3 _).trans (updR _ R 4 _) (fun _ _ h => h)
  go_enter Try.func61, Try.ntmps61
  go_wp2
  go_end0
  exact ⟨rfl, HG.out, HU.out⟩
theorem rGive_gone {w : World} {R : Nat} {B : ByteArray} {p : Nat} {lim : Int} {er sp : Nat} (h : Rdr w R B p lim er sp) (he : er ≠ 0) (e q : Int) :
    Calls Try.prog 61 #[.pointer (some ⟨R, 0, none⟩), .int .i64 e, .int .i64 q] w fun en w' => en = .returned (.tuple #[]) ∧ w = w' := by
  have c3 := h.c3
  have hb : ((er : Int) == 0) = false := by rw [beq_eq_false_iff_ne]; omega
  go_enter Try.func61, Try.ntmps61
  go_wp2
  go_end0
  exact ⟨rfl, rfl⟩
/-- it gives up at q, unless something is so -/
theorem rNeed_any' {w : World} {R : Nat} {B : ByteArray} {p : Nat} {lim : Int} {sp : Nat} (h : Rdr w R B p lim 0 sp) (b : Bool) (q : Nat) :
    Calls Try.prog 31 #[.pointer (some ⟨R, 0, none⟩), .bool b, .int .i64 q] w fun en w' => en = .returned (.tuple #[]) ∧ Rdr w' R B p lim (if b then 0 else 2) (if b then sp else q) ∧ Upd (· = R) w w' := by
  have HG := hid (rGive_any h 2 q)
  have H0 := hid h
  cases b with
  | true =>
    go_enter Try.func31, Try.ntmps31
    go_wp2_with fail
    go_end0
    exact ⟨rfl, H0.out, Upd.refl _ _⟩
  | false =>
    go_enter Try.func31, Try.ntmps31
    go_wp2_with fail
    refine HG.out.mono ?_
    rintro e w1 ⟨rfl, h1, u1⟩
    have H1 := hid h1
    have U1 := hid u1
    clear h1 u1
    go_wp2_with fail
    go_end0
    exact ⟨rfl, H1.out, U1.out⟩
theorem rNeed_gone {w : World} {R : Nat} {B : ByteArray} {p : Nat} {lim : Int} {er sp : Nat} (h : Rdr w R B p lim er sp) (he : er ≠ 0) (b : Bool) (q : Int) :
    Calls Try.prog 31 #[.pointer (some ⟨R, 0, none⟩), .bool b, .int .i64 q] w fun en w' => en = .returned (.tuple #[]) ∧ w = w' := by
  have HG := hid (rGive_gone h he 2 q)
  cases b with
  | true =>
    go_enter Try.func31, Try.ntmps31
    go_wp2_with fail
    go_end0
    exact ⟨rfl, rfl⟩
  | false =>
    go_enter Try.func31, Try.ntmps31
    go_wp2_with fail
    refine HG.out.mono ?_
    rintro e w1 ⟨rfl, rfl⟩
    go_wp2_with fail
    go_end0
    exact ⟨rfl, rfl⟩
end Go.Proofs.Ytkfohickmdkplaa

namespace Go.Proofs.Ytkfohickmdkplaa
open Go.RowKit Go.Proofs.Leb Go.Proofs.Own Go.Proofs.Cur
set_option maxRecDepth 100000
set_option maxHeartbeats 2000000

/-- what comes of reading, in the document's memory -/
def RGot {α : Type} (R : Nat) (B : ByteArray) (lim : Int) (V : α → Value) (o : Out α) (w : World) (e : Ending) (w' : World) : Prop :=
  Upd (· = R) w w' ∧ match o with
    | .ok a q => e = .returned (V a) ∧ Rdr w' R B q lim 0 0
    | .up q er => ∃ a p', e = .returned (V a) ∧ Rdr w' R B p' lim er q
theorem RGot.mk_ok {α : Type} {R : Nat} {B : ByteArray} {lim : Int} {V : α → Value} {o : Out α} {w : World} {e : Ending} {w' : World} {a : α} {q : Nat} (h : o = .ok a q)
    (hu : Upd (· = R) w w') (he : e = .returned (V a)) (hc : Rdr w' R B q lim 0 0) : RGot R B lim V o w e w' := by subst h; exact ⟨hu, he, hc⟩
theorem RGot.mk_up {α : Type} {R : Nat} {B : ByteArray} {lim : Int} {V : α → Value} {o : Out α} {w : World} {e : Ending} {w' : World} {q er p' : Nat} (a : α) (h : o = .up q er)
    (hu : Upd (· = R) w w') (he : e = .returned (V a)) (hc : Rdr w' R B p' lim er q) : RGot R B lim V o w e w' := by subst h; exact ⟨hu, a, p', he, hc⟩

def nextO (bs : List UInt8) (lim : Int) (p : Nat) : Out UInt8 :=
  if rest lim p = 0 then .up p 2 else if h : p < bs.length then .ok bs[p] (p + 1) else .up p 1
theorem byte_next (bs : List UInt8) (lim : Int) (may : UInt8 → Int → Prop) (p : Nat) : byteO bs lim may p = match nextO bs lim p with
    | .up q e => .up q e
    | .ok x q => (open Classical in if may x (rest lim q) then .ok x q else .up p 2) := by
  unfold byteO nextO
  split
  · rfl
  · split <;> rfl

theorem size_list (B : ByteArray) : B.data.toList.length = B.size := by rw [Array.length_toList]; rfl

theorem rNext_any {w : World} {R : Nat} {B : ByteArray} {p : Nat} {lim : Int} (h : Rdr w R B p lim 0 0) (hi : Inv B.size lim p) :
    Calls Try.prog 30 #[.pointer (some ⟨R, 0, none⟩)] w (RGot R B lim cb (nextO B.data.toList lim p) w) := by
  have HI := hid hi
  have H0 := hid h
  have ip := hi.place
  have il := hi.len
  have hrr := hi.rest
  have HR := hid (rRest_any h hi)
  obtain ⟨r, hr⟩ : ∃ r, rest lim p = r := ⟨_, rfl⟩
  rw [hr] at HR hrr
  have c3 := h.c3
  have c1 := h.c1
  have hl := size_list B
  by_cases r0 : r = 0
  · have HO : Hid (nextO B.data.toList lim p = .up p 2) := by show _ = _; unfold nextO; rw [if_pos (hr.trans r0)]
    subst r0
    clear hi hr hrr hl
    go_enter Try.func30, Try.ntmps30
    go_wp2_with fail
    refine HR.out.mono ?_
    rintro e w1 ⟨rfl, hn⟩
    have h1 := H0.out.new hn
    have c11 := h1.c1
    have HG := hid (rGive_any h1 2 p)
    have HN := hid hn
    clear hn h1
    go_wp2_with fail
    refine HG.out.mono ?_
    rintro e w2 ⟨rfl, h2, u2⟩
    have H2 := hid h2
    have U2 := hid u2
    clear h2 u2
    go_wp2_with fail
    go_ret
    exact RGot.mk_up 0 HO.out (Upd.trans (New.upd HN.out) U2.out (fun _ _ h => h)) rfl H2.out
  · have hb : ¬ r ≤ 0 := by omega
    by_cases hp : p < B.size
    · have hr' : rest lim p ≠ 0 := by rw [hr]; exact r0
      have hpl : p < B.data.toList.length := by rw [hl]; exact hp
      obtain ⟨x, hx⟩ : ∃ x, B.data.toList[p] = x := ⟨_, rfl⟩
      have HO : Hid (nextO B.data.toList lim p = .ok x (p + 1)) := by show _ = _; unfold nextO; rw [if_neg hr', dif_pos hpl, hx]
      have HX := hid hx
      have hge : ¬ (B.size ≤ p) := by omega
      have hgi : ¬ ((B.size : Int) ≤ (p : Int)) := by omega
      clear hi hr hr' r0 hl hx
      go_enter Try.func30, Try.ntmps30
      go_wp2_with fail
      refine HR.out.mono ?_
      rintro e w1 ⟨rfl, hn⟩
      have h1 := H0.out.new hn
      have H1 := hid h1
      have HN := hid hn
      clear hn h1
      go_wp2_with fail
      have hn : New w1 w1.drew := (Upd.refl _ _).drew
      go_cut [26] (fun a wx => a = .bool false ∧ New w1 wx)
      case first =>
        refine wp_region_noPanic ?_
        refine wp_region_held_drew (S := (New w1)) (by kernel_rfl) (by first | exact hn | exact (Upd.refl _ _).drew | exact Upd.drew (by assumption)) (fun hn => ?_)
        refine wpAnyH_take (i := 0) (oi := { dst := some 17, op := Op.move (Operand.tmp 0), type := 33, pos := "ref.go:61", after := #[], guard := none }) (v := ?v1x1) rfl (by kernel_rfl) (by kernel_rfl) (by kernel_rfl) (fun _ _ _ h => h) (Or.inl ⟨by rfl, ?y1x1⟩) hn ?r1x1
        case y1x1 => (intro wS hS; (try go_simp); (try with_reducible rfl))
        try simp only [Act.put, List.setIfInBounds_toArray, List.set_cons_zero, List.set_cons_succ]
        refine wpAnyH_take (i := 1) (oi := { dst := some 18, op := Op.nilCheck (Operand.tmp 17), type := 0, pos := "ref.go:61", after := #[{ on := 0, ground := Ground.data }], guard := none }) (v := ?v1x2) rfl (by kernel_rfl) (by kernel_rfl) (by kernel_rfl) (fun _ _ _ h => h) (Or.inl ⟨by rfl, ?y1x2⟩) hn ?r1x2
        case y1x2 => (intro wS hS; (try go_simp); (try with_reducible rfl))
        try simp only [Act.put, List.setIfInBounds_toArray, List.set_cons_zero, List.set_cons_succ]
        refine wpAnyH_take (i := 2) (oi := { dst := some 19, op := Op.fieldAddr 37 (Operand.tmp 18) 1, type := 0, pos := "ref.go:61", after := #[{ on := 1, ground := Ground.data }], guard := none }) (v := ?v1x3) rfl (by kernel_rfl) (by kernel_rfl) (by kernel_rfl) (fun _ _ _ h => h) (Or.inl ⟨by rfl, ?y1x3⟩) hn ?r1x3
        case y1x3 => (intro wS hS; (try go_simp); (try with_reducible rfl))
        try simp only [Act.put, List.setIfInBounds_toArray, List.set_cons_zero, List.set_cons_succ]
        refine wpAnyH_take (i := 3) (oi := { dst := some 20, op := Op.load 3 (Operand.tmp 19), type := 3, pos := "ref.go:61", after := #[{ on := 2, ground := Ground.data }], guard := none }) (v := ?v1x4) rfl (by kernel_rfl) (by kernel_rfl) (by kernel_rfl) (fun _ _ _ h => h) (Or.inl ⟨by rfl, ?y1x4⟩) hn ?r1x4
        case y1x4 => (intro wS hS; have c := hS.cell H1.out.c1 (fun h => h); (try go_simp); (try with_reducible rfl))
        try simp only [Act.put, List.setIfInBounds_toArray, List.set_cons_zero, List.set_cons_succ]
        refine wpAnyH_take (i := 4) (oi := { dst := some 21, op := Op.move (Operand.tmp 0), type := 33, pos := "ref.go:61", after := #[], guard := none }) (v := ?v1x5) rfl (by kernel_rfl) (by kernel_rfl) (by kernel_rfl) (fun _ _ _ h => h) (Or.inl ⟨by rfl, ?y1x5⟩) hn ?r1x5
        case y1x5 => (intro wS hS; (try go_simp); (try with_reducible rfl))
        try simp only [Act.put, List.setIfInBounds_toArray, List.set_cons_zero, List.set_cons_succ]
        refine wpAnyH_take (i := 5) (oi := { dst := some 22, op := Op.nilCheck (Operand.tmp 21), type := 0, pos := "ref.go:61", after := #[{ on := 4, ground := Ground.data }], guard := none }) (v := ?v1x6) rfl (by kernel_rfl) (by kernel_rfl) (by kernel_rfl) (fun _ _ _ h => h) (Or.inl ⟨by rfl, ?y1x6⟩) hn ?r1x6
        case y1x6 => (intro wS hS; (try go_simp); (try with_reducible rfl))
        try simp only [Act.put, List.setIfInBounds_toArray, List.set_cons_zero, List.set_cons_succ]
        refine wpAnyH_take (i := 6) (oi := { dst := some 23, op := Op.fieldAddr 37 (Operand.tmp 22) 0, type := 0, pos := "ref.go:61", after := #[{ on := 5, ground := Ground.data }], guard := none }) (v := ?v1x7) rfl (by kernel_rfl) (by kernel_rfl) (by kernel_rfl) (fun _ _ _ h => h) (Or.inl ⟨by rfl, ?y1x7⟩) hn ?r1x7
        case y1x7 => (intro wS hS; (try go_simp); (try with_reducible rfl))
        try simp only [Act.put, List.setIfInBounds_toArray, List.set_cons_zero, List.set_cons_succ]
        refine wpAnyH_take (i := 7) (oi := { dst := some 24, op := Op.load 9 (Operand.tmp 23), type := 9, pos := "ref.go:61", after := #[{ on := 6, ground := Ground.data }], guard := none }) (v := ?v1x8) rfl (by kernel_rfl) (by kernel_rfl) (by kernel_rfl) (fun _ _ _ h => h) (Or.inl ⟨by rfl, ?y1x8⟩) hn ?r1x8
        case y1x8 => (intro wS hS; have c := hS.cell H1.out.c0 (fun h => h); (try go_simp); (try with_reducible rfl))
        try simp only [Act.put, List.setIfInBounds_toArray, List.set_cons_zero, List.set_cons_succ]
        refine wpAnyH_take (i := 8) (oi := { dst := some 25, op := Op.call { callee := Callee.builtin Builtin.len, args := #[Operand.tmp 24], argTypes := #[9] }, type := 3, pos := "ref.go:61", after := #[{ on := 7, ground := Ground.data }], guard := none }) (v := ?v1x9) rfl (by kernel_rfl) (by kernel_rfl) (by kernel_rfl) (fun _ _ _ h => h) (Or.inl ⟨by rfl, ?y1x9⟩) hn ?r1x9
        case y1x9 => (intro wS hS; (try go_simp); (try with_reducible rfl))
        try simp only [Act.put, List.setIfInBounds_toArray, List.set_cons_zero, List.set_cons_succ]
        refine wpAnyH_take (i := 9) (oi := { dst := some 26, op := Op.binOp BinOp.geq 3 (Operand.tmp 20) (Operand.tmp 25) 3, type := 4, pos := "ref.go:61", after := #[{ on := 3, ground := Ground.data }, { on := 8, ground := Ground.data }], guard := none }) (v := ?v1x10) rfl (by kernel_rfl) (by kernel_rfl) (by kernel_rfl) (fun _ _ _ h => h) (Or.inl ⟨by rfl, ?y1x10⟩) hn ?r1x10
        case y1x10 => (intro wS hS; (try go_simp); (try with_reducible rfl))
        try simp only [Act.put, List.setIfInBounds_toArray, List.set_cons_zero, List.set_cons_succ]
        refine wpAnyH_done (by kernel_rfl) ?_ _
        refine NoPanic.normal ?_
        go_wp2_with fail
        go_meet
        exact ⟨by first | rfl | (congr 1; exact decide_eq_false (by omega)), hn⟩
      case rest =>
        obtain ⟨rfl, hw⟩ := hcut
        obtain ⟨w2, rfl⟩ : ∃ w2, w2 = wc := ⟨_, rfl⟩
        have h2 := H1.out.new hw
        have H2 := hid h2
        have c1 := h2.c1
        have f1 := h2.f 1
        obtain ⟨q, hq⟩ : ∃ q, p + 1 = q := ⟨_, rfl⟩
        have hqi : (p : Int) + 1 = (q : Int) := by omega
        have hqq : IntKind.i64.wrap ((q : Int) - 1) = (p : Int) := by rw [IntWalk.i64_in _ (by omega)]; omega
        rw [hq] at HO
        have HQQ := hid hqq
        have h3 := h2.at1 q
        have u3 := updR w2 R 1 (.int .i64 q)
        obtain ⟨w3, hw3⟩ : ∃ w3, w2.setCell ⟨R, 1, none⟩ (.int .i64 q) = w3 := ⟨_, rfl⟩
        rw [hw3] at h3 u3
        have H3 := hid h3
        have U3 := hid (Upd.trans (New.upd (New.trans HN.out hw)) u3 (T := (· = R)) (fun _ _ h => h))
        clear hw h2 h3 u3 hn hq hqq
        go_upto_region 10 with fail
        clear c1 f1 hw3 hqi
        have hn : New w3 w3.drew := (Upd.refl _ _).drew
        have hqq := HQQ.out
        refine wp_region_noPanic ?_
        refine wp_region_held_drew (S := (New w3)) (by kernel_rfl) (by first | exact hn | exact (Upd.refl _ _).drew | exact Upd.drew (by assumption)) (fun hn => ?_)
        refine wpAnyH_take (i := 0) (oi := { dst := some 42, op := Op.move (Operand.tmp 0), type := 33, pos := "ref.go:66", after := #[], guard := none }) (v := ?v2x1) rfl (by kernel_rfl) (by kernel_rfl) (by kernel_rfl) (fun _ _ _ h => h) (Or.inl ⟨by rfl, ?y2x1⟩) hn ?r2x1
        case y2x1 => (intro wS hS; (try go_simp); (try with_reducible rfl))
        try simp only [Act.put, List.setIfInBounds_toArray, List.set_cons_zero, List.set_cons_succ]
        refine wpAnyH_take (i := 1) (oi := { dst := some 43, op := Op.nilCheck (Operand.tmp 42), type := 0, pos := "ref.go:66", after := #[{ on := 0, ground := Ground.data }], guard := none }) (v := ?v2x2) rfl (by kernel_rfl) (by kernel_rfl) (by kernel_rfl) (fun _ _ _ h => h) (Or.inl ⟨by rfl, ?y2x2⟩) hn ?r2x2
        case y2x2 => (intro wS hS; (try go_simp); (try with_reducible rfl))
        try simp only [Act.put, List.setIfInBounds_toArray, List.set_cons_zero, List.set_cons_succ]
        refine wpAnyH_take (i := 2) (oi := { dst := some 44, op := Op.fieldAddr 37 (Operand.tmp 43) 0, type := 0, pos := "ref.go:66", after := #[{ on := 1, ground := Ground.data }], guard := none }) (v := ?v2x3) rfl (by kernel_rfl) (by kernel_rfl) (by kernel_rfl) (fun _ _ _ h => h) (Or.inl ⟨by rfl, ?y2x3⟩) hn ?r2x3
        case y2x3 => (intro wS hS; (try go_simp); (try with_reducible rfl))
        try simp only [Act.put, List.setIfInBounds_toArray, List.set_cons_zero, List.set_cons_succ]
        refine wpAnyH_take (i := 3) (oi := { dst := some 45, op := Op.load 9 (Operand.tmp 44), type := 9, pos := "ref.go:66", after := #[{ on := 2, ground := Ground.data }], guard := none }) (v := ?v2x4) rfl (by kernel_rfl) (by kernel_rfl) (by kernel_rfl) (fun _ _ _ h => h) (Or.inl ⟨by rfl, ?y2x4⟩) hn ?r2x4
        case y2x4 => (intro wS hS; have c := hS.cell H3.out.c0 (fun h => h); (try go_simp); (try with_reducible rfl))
        try simp only [Act.put, List.setIfInBounds_toArray, List.set_cons_zero, List.set_cons_succ]
        refine wpAnyH_take (i := 4) (oi := { dst := some 46, op := Op.move (Operand.tmp 0), type := 33, pos := "ref.go:66", after := #[], guard := none }) (v := ?v2x5) rfl (by kernel_rfl) (by kernel_rfl) (by kernel_rfl) (fun _ _ _ h => h) (Or.inl ⟨by rfl, ?y2x5⟩) hn ?r2x5
        case y2x5 => (intro wS hS; (try go_simp); (try with_reducible rfl))
        try simp only [Act.put, List.setIfInBounds_toArray, List.set_cons_zero, List.set_cons_succ]
        refine wpAnyH_take (i := 5) (oi := { dst := some 47, op := Op.nilCheck (Operand.tmp 46), type := 0, pos := "ref.go:66", after := #[{ on := 4, ground := Ground.data }], guard := none }) (v := ?v2x6) rfl (by kernel_rfl) (by kernel_rfl) (by kernel_rfl) (fun _ _ _ h => h) (Or.inl ⟨by rfl, ?y2x6⟩) hn ?r2x6
        case y2x6 => (intro wS hS; (try go_simp); (try with_reducible rfl))
        try simp only [Act.put, List.setIfInBounds_toArray, List.set_cons_zero, List.set_cons_succ]
        refine wpAnyH_take (i := 6) (oi := { dst := some 48, op := Op.fieldAddr 37 (Operand.tmp 47) 1, type := 0, pos := "ref.go:66", after := #[{ on := 5, ground := Ground.data }], guard := none }) (v := ?v2x7) rfl (by kernel_rfl) (by kernel_rfl) (by kernel_rfl) (fun _ _ _ h => h) (Or.inl ⟨by rfl, ?y2x7⟩) hn ?r2x7
        case y2x7 => (intro wS hS; (try go_simp); (try with_reducible rfl))
        try simp only [Act.put, List.setIfInBounds_toArray, List.set_cons_zero, List.set_cons_succ]
        refine wpAnyH_take (i := 7) (oi := { dst := some 49, op := Op.load 3 (Operand.tmp 48), type := 3, pos := "ref.go:66", after := #[{ on := 6, ground := Ground.data }], guard := none }) (v := ?v2x8) rfl (by kernel_rfl) (by kernel_rfl) (by kernel_rfl) (fun _ _ _ h => h) (Or.inl ⟨by rfl, ?y2x8⟩) hn ?r2x8
        case y2x8 => (intro wS hS; have c := hS.cell H3.out.c1 (fun h => h); (try go_simp); (try with_reducible rfl))
        try simp only [Act.put, List.setIfInBounds_toArray, List.set_cons_zero, List.set_cons_succ]
        refine wpAnyH_take (i := 8) (oi := { dst := some 50, op := Op.binOp BinOp.sub 3 (Operand.tmp 49) (Operand.const (Value.int IntKind.i64 1)) 3, type := 3, pos := "ref.go:66", after := #[{ on := 7, ground := Ground.data }], guard := none }) (v := ?v2x9) rfl (by kernel_rfl) (by kernel_rfl) (by kernel_rfl) (fun _ _ _ h => h) (Or.inl ⟨by rfl, ?y2x9⟩) hn ?r2x9
        case y2x9 => (intro wS hS; (try go_simp); (try with_reducible rfl))
        try simp only [Act.put, List.setIfInBounds_toArray, List.set_cons_zero, List.set_cons_succ]
        refine wpAnyH_ready (rs := [9]) (by kernel_rfl) (by simp) ?_
        refine AllReadyH.cons (o := { dst := some 51, op := Op.index 9 (Operand.tmp 45) (Operand.tmp 50), type := 5, pos := "ref.go:66", after := #[{ on := 3, ground := Ground.data }, { on := 8, ground := Ground.data }], guard := none }) rfl (fun K hK => ?_) AllReadyH.nil
        go_simp
        refine hK.out _ _ (by first | exact hn | exact Upd.alloc hn _) (fun hn => ?_)
        clear hK K
        try simp only [Act.put, List.setIfInBounds_toArray, List.set_cons_zero, List.set_cons_succ]
        refine wpAnyH_take (i := 10) (oi := { dst := some 2, op := Op.assign (Operand.tmp 51), type := 5, pos := "ref.go:66", after := #[{ on := 9, ground := Ground.data }, { on := 0, ground := Ground.phase }, { on := 1, ground := Ground.phase }, { on := 2, ground := Ground.phase }, { on := 3, ground := Ground.phase }, { on := 4, ground := Ground.phase }, { on := 5, ground := Ground.phase }, { on := 6, ground := Ground.phase }, { on := 7, ground := Ground.phase }, { on := 8, ground := Ground.phase }, { on := 9, ground := Ground.phase }], guard := none }) (v := ?v2x10) rfl (by kernel_rfl) (by kernel_rfl) (by kernel_rfl) (fun _ _ _ h => h) (Or.inl ⟨by rfl, ?y2x10⟩) hn ?r2x10
        case y2x10 => (intro wS hS; (try go_simp); (try with_reducible rfl))
        try simp only [Act.put, List.setIfInBounds_toArray, List.set_cons_zero, List.set_cons_succ]
        refine wpAnyH_done (by kernel_rfl) ?_ _
        refine NoPanic.normal ?_
        go_wp2_with fail
        go_ret
        refine RGot.mk_ok HO.out (U3.out.thenNew hn) ?_ (H3.out.new hn)
        rw [← HX.out]
        rfl
    · have hpl : ¬ p < B.data.toList.length := by rw [hl]; exact hp
      have HO : Hid (nextO B.data.toList lim p = .up p 1) := by show _ = _; unfold nextO; rw [if_neg (by rw [hr]; exact r0), dif_neg hpl]
      have hps : B.size = p := by omega
      have hgi : (B.size : Int) ≤ (p : Int) := by omega
      have hge : B.size ≤ p := by omega
      have HPS := hid hps
      clear hi hr r0 hl hpl hps hp
      go_enter Try.func30, Try.ntmps30
      go_wp2_with fail
      refine HR.out.mono ?_
      rintro e w1 ⟨rfl, hn⟩
      have h1 := H0.out.new hn
      have H1 := hid h1
      have HN := hid hn
      clear hn h1
      go_wp2_with fail
      have hn : New w1 w1.drew := (Upd.refl _ _).drew
      go_cut [26] (fun a wx => a = .bool true ∧ New w1 wx)
      case first =>
        refine wp_region_noPanic ?_
        refine wp_region_held_drew (S := (New w1)) (by kernel_rfl) (by first | exact hn | exact (Upd.refl _ _).drew | exact Upd.drew (by assumption)) (fun hn => ?_)
        refine wpAnyH_take (i := 0) (oi := { dst := some 17, op := Op.move (Operand.tmp 0), type := 33, pos := "ref.go:61", after := #[], guard := none }) (v := ?v3x1) rfl (by kernel_rfl) (by kernel_rfl) (by kernel_rfl) (fun _ _ _ h => h) (Or.inl ⟨by rfl, ?y3x1⟩) hn ?r3x1
        case y3x1 => (intro wS hS; (try go_simp); (try with_reducible rfl))
        try simp only [Act.put, List.setIfInBounds_toArray, List.set_cons_zero, List.set_cons_succ]
        refine wpAnyH_take (i := 1) (oi := { dst := some 18, op := Op.nilCheck (Operand.tmp 17), type := 0, pos := "ref.go:61", after := #[{ on := 0, ground := Ground.data }], guard := none }) (v := ?v3x2) rfl (by kernel_rfl) (by kernel_rfl) (by kernel_rfl) (fun _ _ _ h => h) (Or.inl ⟨by rfl, ?y3x2⟩) hn ?r3x2
        case y3x2 => (intro wS hS; (try go_simp); (try with_reducible rfl))
        try simp only [Act.put, List.setIfInBounds_toArray, List.set_cons_zero, List.set_cons_succ]
        refine wpAnyH_take (i := 2) (oi := { dst := some 19, op := Op.fieldAddr 37 (Operand.tmp 18) 1, type := 0, pos := "ref.go:61", after := #[{ on := 1, ground := Ground.data }], guard := none }) (v := ?v3x3) rfl (by kernel_rfl) (by kernel_rfl) (by kernel_rfl) (fun _ _ _ h => h) (Or.inl ⟨by rfl, ?y3x3⟩) hn ?r3x3
        case y3x3 => (intro wS hS; (try go_simp); (try with_reducible rfl))
        try simp only [Act.put, List.setIfInBounds_toArray, List.set_cons_zero, List.set_cons_succ]
        refine wpAnyH_take (i := 3) (oi := { dst := some 20, op := Op.load 3 (Operand.tmp 19), type := 3, pos := "ref.go:61", after := #[{ on := 2, ground := Ground.data }], guard := none }) (v := ?v3x4) rfl (by kernel_rfl) (by kernel_rfl) (by kernel_rfl) (fun _ _ _ h => h) (Or.inl ⟨by rfl, ?y3x4⟩) hn ?r3x4
        case y3x4 => (intro wS hS; have c := hS.cell H1.out.c1 (fun h => h); (try go_simp); (try with_reducible rfl))
        try simp only [Act.put, List.setIfInBounds_toArray, List.set_cons_zero, List.set_cons_succ]
        refine wpAnyH_take (i := 4) (oi := { dst := some 21, op := Op.move (Operand.tmp 0), type := 33, pos := "ref.go:61", after := #[], guard := none }) (v := ?v3x5) rfl (by kernel_rfl) (by kernel_rfl) (by kernel_rfl) (fun _ _ _ h => h) (Or.inl ⟨by rfl, ?y3x5⟩) hn ?r3x5
        case y3x5 => (intro wS hS; (try go_simp); (try with_reducible rfl))
        try simp only [Act.put, List.setIfInBounds_toArray, List.set_cons_zero, List.set_cons_succ]
        refine wpAnyH_take (i := 5) (oi := { dst := some 22, op := Op.nilCheck (Operand.tmp 21), type := 0, pos := "ref.go:61", after := #[{ on := 4, ground := Ground.data }], guard := none }) (v := ?v3x6) rfl (by kernel_rfl) (by kernel_rfl) (by kernel_rfl) (fun _ _ _ h => h) (Or.inl ⟨by rfl, ?y3x6⟩) hn ?r3x6
        case y3x6 => (intro wS hS; (try go_simp); (try with_reducible rfl))
        try simp only [Act.put, List.setIfInBounds_toArray, List.set_cons_zero, List.set_cons_succ]
        refine wpAnyH_take (i := 6) (oi := { dst := some 23, op := Op.fieldAddr 37 (Operand.tmp 22) 0, type := 0, pos := "ref.go:61", after := #[{ on := 5, ground := Ground.data }], guard := none }) (v := ?v3x7) rfl (by kernel_rfl) (by kernel_rfl) (by kernel_rfl) (fun _ _ _ h => h) (Or.inl ⟨by rfl, ?y3x7⟩) hn ?r3x7
        case y3x7 => (intro wS hS; (try go_simp); (try with_reducible rfl))
        try simp only [Act.put, List.setIfInBounds_toArray, List.set_cons_zero, List.set_cons_succ]
        refine wpAnyH_take (i := 7) (oi := { dst := some 24, op := Op.load 9 (Operand.tmp 23), type := 9, pos := "ref.go:61", after := #[{ on := 6, ground := Ground.data }], guard := none }) (v := ?v3x8) rfl (by kernel_rfl) (by kernel_rfl) (by kernel_rfl) (fun _ _ _ h => h) (Or.inl ⟨by rfl, ?y3x8⟩) hn ?r3x8
        case y3x8 => (intro wS hS; have c := hS.cell H1.out.c0 (fun h => h); (try go_simp); (try with_reducible rfl))
        try simp only [Act.put, List.setIfInBounds_toArray, List.set_cons_zero, List.set_cons_succ]
        refine wpAnyH_take (i := 8) (oi := { dst := some 25, op := Op.call { callee := Callee.builtin Builtin.len, args := #[Operand.tmp 24], argTypes := #[9] }, type := 3, pos := "ref.go:61", after := #[{ on := 7, ground := Ground.data }], guard := none }) (v := ?v3x9) rfl (by kernel_rfl) (by kernel_rfl) (by kernel_rfl) (fun _ _ _ h => h) (Or.inl ⟨by rfl, ?y3x9⟩) hn ?r3x9
        case y3x9 => (intro wS hS; (try go_simp); (try with_reducible rfl))
        try simp only [Act.put, List.setIfInBounds_toArray, List.set_cons_zero, List.set_cons_succ]
        refine wpAnyH_take (i := 9) (oi := { dst := some 26, op := Op.binOp BinOp.geq 3 (Operand.tmp 20) (Operand.tmp 25) 3, type := 4, pos := "ref.go:61", after := #[{ on := 3, ground := Ground.data }, { on := 8, ground := Ground.data }], guard := none }) (v := ?v3x10) rfl (by kernel_rfl) (by kernel_rfl) (by kernel_rfl) (fun _ _ _ h => h) (Or.inl ⟨by rfl, ?y3x10⟩) hn ?r3x10
        case y3x10 => (intro wS hS; (try go_simp); (try with_reducible rfl))
        try simp only [Act.put, List.setIfInBounds_toArray, List.set_cons_zero, List.set_cons_succ]
        refine wpAnyH_done (by kernel_rfl) ?_ _
        refine NoPanic.normal ?_
        go_wp2_with fail
        go_meet
        exact ⟨by first | rfl | (congr 1; exact decide_eq_true (by omega)), hn⟩
      case rest =>
        obtain ⟨rfl, hw⟩ := hcut
        obtain ⟨w2, rfl⟩ : ∃ w2, w2 = wc := ⟨_, rfl⟩
        have h2 := H1.out.new hw
        have H2 := hid h2
        have c0 := h2.c0
        have HW := hid (New.trans HN.out hw)
        have HG := hid (rGive_any h2 1 B.size)
        clear hw h2 hn
        go_wp2_with fail
        refine HG.out.mono ?_
        rintro e w3 ⟨rfl, h3, u3⟩
        have H3 := hid h3
        have U3 := hid u3
        clear h3 u3
        go_wp2_with fail
        go_ret
        have h3 := H3.out
        rw [HPS.out] at h3
        exact RGot.mk_up 0 HO.out (Upd.trans (New.upd HW.out) U3.out (fun _ _ h => h)) rfl h3
theorem rNext_gone {w : World} {R : Nat} {B : ByteArray} {p : Nat} {lim : Int} {er sp : Nat} (h : Rdr w R B p lim er sp) (he : er ≠ 0) :
    Calls Try.prog 30 #[.pointer (some ⟨R, 0, none⟩)] w fun e w' => e = .returned (cb 0) ∧ w = w' := by
  have c3 := h.c3
  have hb : ((er : Int) != 0) = true := by rw [bne_iff_ne]; omega
  go_enter Try.func30, Try.ntmps30
  go_wp2
  go_ret
  exact ⟨rfl, rfl⟩

theorem rEnter_any {w : World} {R : Nat} {B : ByteArray} {p : Nat} {lim : Int} {er sp : Nat} (h : Rdr w R B p lim er sp) (hi : Inv B.size lim p) (n : Int) (hn1 : -9223372036854775808 ≤ n) (hn2 : n ≤ 9223372036854775807) :
    Calls Try.prog 36 #[.pointer (some ⟨R, 0, none⟩), .int .i64 n] w fun e w' => e = .returned (.int .i64 lim) ∧ Rdr w' R B p (p + min (max n 0) (rest lim p)) er sp ∧ Upd (· = R) w w' := by
  have ip := hi.place
  have il := hi.len
  have hrr := hi.rest
  have HRR : Hid (∀ w2, New w w2 → Calls Try.prog 38 #[.pointer (some ⟨R, 0, none⟩)] w2 fun e w' => e = .returned (.int .i64 (rest lim p)) ∧ New w2 w') := fun w2 hn => rRest_any (h.new hn) hi
  have H0 := hid h
  obtain ⟨r, hr⟩ : ∃ r, rest lim p = r := ⟨_, rfl⟩
  rw [hr] at HRR hrr ⊢
  have c2 := h.c2
  have hc : n < 0 ∨ (0 ≤ n ∧ r < n) ∨ (0 ≤ n ∧ n ≤ r) := by omega
  rcases hc with hc | ⟨hc1, hc⟩ | ⟨hc1, hc⟩
  · have HM : Hid ((p : Int) + min (max n 0) r = p) := by show _ = _; omega
    have hz : ¬ r < 0 := by omega
    clear hi hr h
    go_enter Try.func36, Try.ntmps36
    go_wp2_with fail
    refine (HRR.out _ (Upd.refl _ _)).mono ?_
    rintro e w1 ⟨rfl, hn⟩
    have h1 := H0.out.new hn
    have H2 := hid (h1.lim2 p)
    have U2 := hid (Upd.trans (New.upd hn) (updR w1 R 2 (.int .i64 p)) (T := (· = R)) (fun _ _ h => h))
    have c1 := h1.c1
    have c2 := h1.c2
    have f2 := h1.f 2
    clear h1 hn
    go_wp2_with fail
    go_ret
    rw [HM.out]
    exact ⟨rfl, H2.out, U2.out⟩
  · have HM : Hid ((p : Int) + min (max n 0) r = p + r) := by show _ = _; omega
    have hz : ¬ n < 0 := by omega
    clear hi hr h
    go_enter Try.func36, Try.ntmps36
    go_wp2_with fail
    refine (HRR.out _ (Upd.refl _ _)).mono ?_
    rintro e w1 ⟨rfl, hn⟩
    have HN := hid hn
    clear hn
    go_wp2_with fail
    refine (HRR.out _ HN.out).mono ?_
    rintro e w2 ⟨rfl, hn⟩
    have h1 := H0.out.new (New.trans HN.out hn)
    have H2 := hid (h1.lim2 (p + r))
    have U2 := hid (Upd.trans (New.upd (New.trans HN.out hn)) (updR w2 R 2 (.int .i64 (p + r))) (T := (· = R)) (fun _ _ h => h))
    have c1 := h1.c1
    have c2 := h1.c2
    have f2 := h1.f 2
    clear h1 hn
    go_wp2_with fail
    go_ret
    rw [HM.out]
    exact ⟨rfl, H2.out, U2.out⟩
  · have HM : Hid ((p : Int) + min (max n 0) r = p + n) := by show _ = _; omega
    have hz : ¬ n < 0 := by omega
    clear hi hr h
    go_enter Try.func36, Try.ntmps36
    go_wp2_with fail
    refine (HRR.out _ (Upd.refl _ _)).mono ?_
    rintro e w1 ⟨rfl, hn⟩
    have h1 := H0.out.new hn
    have H2 := hid (h1.lim2 (p + n))
    have U2 := hid (Upd.trans (New.upd hn) (updR w1 R 2 (.int .i64 (p + n))) (T := (· = R)) (fun _ _ h => h))
    have c1 := h1.c1
    have c2 := h1.c2
    have f2 := h1.f 2
    clear h1 hn
    go_wp2_with fail
    go_ret
    rw [HM.out]
    exact ⟨rfl, H2.out, U2.out⟩
end Go.Proofs.Ytkfohickmdkplaa

namespace Go.Proofs.Ytkfohickmdkplaa
open Go.RowKit Go.Proofs.Own Go.Proofs.Span
set_option maxRecDepth 100000
set_option maxHeartbeats 2000000

theorem endless_any (mn mx : Int) (w : World) :
    Calls Try.prog 69 #[.agg #[.int .i64 mn, .int .i64 mx]] w fun e w' => e = .returned (.bool (decide (1099511627776 ≤ mx))) ∧ w.alloc (.cells #[.int .i64 mn, .int .i64 mx] 68) = w' := by
  go_enter Try.func69, Try.ntmps69
  go_wp2_with fail
  go_ret
  exact ⟨rfl, rfl⟩

theorem has_any (mn mx n : Int) (w : World) :
    Calls Try.prog 55 #[.agg #[.int .i64 mn, .int .i64 mx], .int .i64 n] w fun e w' => e = .returned (.bool (has mn mx n)) ∧ New w w' := by
  have HE := hid (endless_any mn mx)
  have HV : Hid (has mn mx n = (decide (mn ≤ n) && (decide (1099511627776 ≤ mx) || decide (n ≤ mx)))) := by show _ = _; rfl
  by_cases h1 : mn ≤ n
  · by_cases h2 : (1099511627776 : Int) ≤ mx
    · have HW : Hid ((decide (mn ≤ n) && (decide (1099511627776 ≤ mx) || decide (n ≤ mx))) = true) := by show _ = _; simp [h1, h2]
      go_enter Try.func55, Try.ntmps55
      go_wp2_with (refine (HE.out _).mono ?_; rintro e w' ⟨rfl, rfl⟩)
      go_ret
      rw [HV.out, HW.out]
      exact ⟨rfl, ((Upd.refl _ _).alloc _).alloc _⟩
    · have HW : Hid ((decide (mn ≤ n) && (decide (1099511627776 ≤ mx) || decide (n ≤ mx))) = decide (n ≤ mx)) := by show _ = _; simp [h1, h2]
      have H2 := hid h2
      go_enter Try.func55, Try.ntmps55
      go_wp2_with (refine (HE.out _).mono ?_; rintro e w' ⟨rfl, rfl⟩)
      go_ret
      refine ⟨?_, ((Upd.refl _ _).alloc _).alloc _⟩
      rw [HV.out, HW.out]
      show Ending.returned (Value.bool (decide (1099511627776 ≤ mx) || decide (n ≤ mx))) = _
      rw [decide_eq_false (by have := H2.out; omega)]
      rfl
  · have HW : Hid ((decide (mn ≤ n) && (decide (1099511627776 ≤ mx) || decide (n ≤ mx))) = false) := by show _ = _; simp [h1]
    go_enter Try.func55, Try.ntmps55
    go_wp2_with fail
    go_ret
    rw [HV.out, HW.out]
    exact ⟨rfl, (Upd.refl _ _).alloc _⟩

/-- a count, several times -/
def tm (n a : Int) : Int := if n ≤ 0 then 0 else mul n a
theorem mul_top (n a : Int) (hn : 1 ≤ n) (ha : 1099511627776 ≤ a) : mul n a = 1099511627776 := by
  have : 1 * a ≤ n * a := Int.mul_le_mul_of_nonneg_right hn (by omega)
  unfold mul; split <;> omega
end Go.Proofs.Ytkfohickmdkplaa

namespace Go.Proofs.Ytkfohickmdkplaa
open Go.RowKit Go.Proofs.Own Go.Proofs.Span
set_option maxRecDepth 100000
set_option maxHeartbeats 2000000

def rightB (mn mx : Int) : Bool := decide (0 ≤ mn) && (decide (mn ≤ mx) && (decide (mn ≤ 274877906944) && (decide (mx ≤ 274877906944) || decide (1099511627776 ≤ mx))))
theorem rightB_iff (mn mx : Int) : rightB mn mx = true ↔ right mn mx := by
  unfold rightB right
  simp only [Bool.and_eq_true, Bool.or_eq_true, decide_eq_true_eq]
def itemB (mn mx : Int) : Bool := rightB mn mx && (decide (1 ≤ mn) && (decide (mn ≤ 31) && (decide (mx ≤ 31) || decide (1099511627776 ≤ mx))))
theorem itemB_iff (mn mx : Int) : itemB mn mx = true ↔ item mn mx := by
  unfold itemB item
  simp only [Bool.and_eq_true, Bool.or_eq_true, decide_eq_true_eq, rightB_iff]

theorem right_any (mn mx : Int) (w : World) :
    Calls Try.prog 15 #[.agg #[.int .i64 mn, .int .i64 mx]] w fun e w' => e = .returned (.bool (rightB mn mx)) ∧ w.alloc (.cells #[.int .i64 mn, .int .i64 mx] 44) = w' := by
  by_cases h1 : (0 : Int) ≤ mn
  · by_cases h2 : mn ≤ mx
    · by_cases h3 : mn ≤ 274877906944
      · by_cases h4 : mx ≤ 274877906944
        · have HV : Hid (rightB mn mx = true) := by show _ = _; unfold rightB; simp [h1, h2, h3, h4]
          go_enter Try.func15, Try.ntmps15
          go_wp2_with fail
          go_ret
          exact ⟨by rw [HV.out]; rfl, rfl⟩
        · have HV : Hid (rightB mn mx = decide (1099511627776 ≤ mx)) := by show _ = _; unfold rightB; simp [h1, h2, h3, h4]
          go_enter Try.func15, Try.ntmps15
          go_wp2_with fail
          go_ret
          refine ⟨?_, rfl⟩
          rw [HV.out]
          first | rfl | (show Ending.returned (Value.bool (decide (mx ≤ 274877906944) || decide (1099511627776 ≤ mx))) = _; rw [decide_eq_false (by omega : ¬ mx ≤ 274877906944)]; rfl)
      · have HV : Hid (rightB mn mx = false) := by show _ = _; unfold rightB; simp [h1, h2, h3]
        go_enter Try.func15, Try.ntmps15
        go_wp2_with fail
        go_ret
        exact ⟨by rw [HV.out]; rfl, rfl⟩
    · have HV : Hid (rightB mn mx = false) := by show _ = _; unfold rightB; simp [h1, h2]
      go_enter Try.func15, Try.ntmps15
      go_wp2_with fail
      go_ret
      exact ⟨by rw [HV.out]; rfl, rfl⟩
  · have HV : Hid (rightB mn mx = false) := by show _ = _; unfold rightB; simp [h1]
    go_enter Try.func15, Try.ntmps15
    go_wp2_with fail
    go_ret
    exact ⟨by rw [HV.out]; rfl, rfl⟩

theorem rhas_any (mn mx n : Int) (w : World) :
    Calls Try.prog 67 #[.agg #[.int .i64 mn, .int .i64 mx], .int .i64 n] w fun e w' => e = .returned (.bool (has mn mx n)) ∧ w.alloc (.cells #[.int .i64 mn, .int .i64 mx] 44) = w' := by
  by_cases h1 : mn ≤ n
  · by_cases h2 : (1099511627776 : Int) ≤ mx
    · have HV : Hid (has mn mx n = true) := by show _ = _; unfold has; simp [h1, h2]
      go_enter Try.func67, Try.ntmps67
      go_wp2_with fail
      go_ret
      exact ⟨by rw [HV.out]; rfl, rfl⟩
    · have HV : Hid (has mn mx n = decide (n ≤ mx)) := by show _ = _; unfold has; simp [h1, h2]
      go_enter Try.func67, Try.ntmps67
      go_wp2_with fail
      go_ret
      refine ⟨?_, rfl⟩
      rw [HV.out]
      first | rfl | (show Ending.returned (Value.bool (decide (1099511627776 ≤ mx) || decide (n ≤ mx))) = _; rw [decide_eq_false (by omega : ¬ (1099511627776 : Int) ≤ mx)]; rfl)
  · have HV : Hid (has mn mx n = false) := by show _ = _; unfold has; simp [h1]
    go_enter Try.func67, Try.ntmps67
    go_wp2_with fail
    go_ret
    exact ⟨by rw [HV.out]; rfl, rfl⟩

theorem rand_any (an ax bn bx : Int) (w : World) (h1 : 0 ≤ an) (h2 : an ≤ 1000000000000000) (h3 : 0 ≤ bn) (h4 : bn ≤ 1000000000000000) (h5 : 0 ≤ ax) (h6 : 0 ≤ bx) :
    Calls Try.prog 77 #[.agg #[.int .i64 an, .int .i64 ax], .agg #[.int .i64 bn, .int .i64 bx]] w fun e w' =>
      e = .returned (.agg #[.int .i64 (an + bn), .int .i64 (most ax bx)]) ∧ New w w' := by
  by_cases ha : (1099511627776 : Int) ≤ ax
  · have HW : Hid (most ax bx = 1099511627776) := by show _ = _; unfold most; rw [if_pos (by omega)]
    go_enter Try.func77, Try.ntmps77
    go_wp2_with fail
    refine ret_agg rfl Try.underlying44 rfl (w.heap.size + 1 + 1) #[.int .i64 (an + bn), .int .i64 1099511627776] 44 (by kernel_rfl) rfl rfl ?_ ?_
    · repeat (first | (refine hp_new ?_; simp; done) | (refine hp_old ?_ ?_; · (simp <;> omega)))
    · rw [HW.out]
      exact ⟨rfl, by repeat (first | exact Upd.refl _ _ | apply Upd.alloc)⟩
  · by_cases hb : (1099511627776 : Int) ≤ bx
    · have HW : Hid (most ax bx = 1099511627776) := by show _ = _; unfold most; rw [if_pos (by omega)]
      go_enter Try.func77, Try.ntmps77
      go_wp2_with fail
      refine ret_agg rfl Try.underlying44 rfl (w.heap.size + 1 + 1) #[.int .i64 (an + bn), .int .i64 1099511627776] 44 (by kernel_rfl) rfl rfl ?_ ?_
      · repeat (first | (refine hp_new ?_; simp; done) | (refine hp_old ?_ ?_; · (simp <;> omega)))
      · rw [HW.out]
        exact ⟨rfl, by repeat (first | exact Upd.refl _ _ | apply Upd.alloc)⟩
    · by_cases hs : (1099511627776 : Int) < ax + bx
      · have HW : Hid (most ax bx = 1099511627776) := by show _ = _; unfold most; rw [if_pos (by omega)]
        go_enter Try.func77, Try.ntmps77
        go_wp2_with fail
        refine ret_agg rfl Try.underlying44 rfl (w.heap.size + 1 + 1) #[.int .i64 (an + bn), .int .i64 1099511627776] 44 (by kernel_rfl) rfl rfl ?_ ?_
        · repeat (first | (refine hp_new ?_; simp; done) | (refine hp_old ?_ ?_; · (simp <;> omega)))
        · rw [HW.out]
          exact ⟨rfl, by repeat (first | exact Upd.refl _ _ | apply Upd.alloc)⟩
      · have HW : Hid (most ax bx = ax + bx) := by show _ = _; unfold most; rw [if_neg (by omega)]
        go_enter Try.func77, Try.ntmps77
        go_wp2_with fail
        refine ret_agg rfl Try.underlying44 rfl (w.heap.size + 1 + 1) #[.int .i64 (an + bn), .int .i64 (ax + bx)] 44 (by kernel_rfl) rfl rfl ?_ ?_
        · repeat (first | (refine hp_new ?_; simp; done) | (refine hp_old ?_ ?_; · (simp <;> omega)))
        · rw [HW.out]
          exact ⟨rfl, by repeat (first | exact Upd.refl _ _ | apply Upd.alloc)⟩

theorem rmul_any (n m : Int) (w : World) (n1 : 1 ≤ n) (n2 : n ≤ 9223372036854775807) (m1 : 0 ≤ m) (m2 : m ≤ 9223372036854775807) :
    Calls Try.prog 81 #[.int .i64 n, .int .i64 m] w fun e w' => e = .returned (.int .i64 (mul n m)) ∧ w = w' := by
  by_cases h0 : (0 : Int) < m
  · have hq : (1099511627776 : Int) / m < n ↔ 1099511627776 < n * m := Int.ediv_lt_iff_lt_mul h0
    by_cases hlt : (1099511627776 : Int) / m < n
    · have HW : Hid (mul n m = 1099511627776) := by show _ = _; unfold mul; rw [if_pos (hq.mp hlt)]
      clear hq
      go_enter Try.func81, Try.ntmps81
      go_wp2_with fail
      go_ret
      exact ⟨by rw [HW.out]; rfl, rfl⟩
    · have HW : Hid (mul n m = n * m) := by show _ = _; unfold mul; rw [if_neg (fun h => hlt (hq.mpr h))]
      have hm : n * m ≤ 1099511627776 := by have := fun h => hlt (hq.mpr h); omega
      have hm0 : 0 ≤ n * m := Int.mul_nonneg (by omega) m1
      have hw : wrap64 (n * m) = n * m := by unfold wrap64; omega
      clear hq
      go_enter Try.func81, Try.ntmps81
      go_wp2_with fail
      go_ret
      exact ⟨by rw [HW.out]; rfl, rfl⟩
  · have hz : m = 0 := by omega
    subst hz
    have HW : Hid (mul n 0 = 0) := by show _ = _; unfold mul; simp
    go_enter Try.func81, Try.ntmps81
    go_wp2_with fail
    go_ret
    exact ⟨by rw [HW.out]; rfl, rfl⟩

theorem rTimes_any (mn mx n : Int) (w : World) (h1 : 0 ≤ mn) (h2 : mn ≤ 9223372036854775807) (h3 : 0 ≤ mx) (h4 : mx ≤ 9223372036854775807) (n2 : n ≤ 9223372036854775807) :
    Calls Try.prog 78 #[.agg #[.int .i64 mn, .int .i64 mx], .int .i64 n] w fun e w' => e = .returned (.agg #[.int .i64 (tm n mn), .int .i64 (tm n mx)]) ∧ New w w' := by
  by_cases hn : n ≤ 0
  · have HW : Hid (∀ a, tm n a = 0) := fun a => if_pos hn
    go_enter Try.func78, Try.ntmps78
    go_wp2_with fail
    refine ret_agg rfl Try.underlying44 rfl (w.heap.size + 1) #[.int .i64 0, .int .i64 0] 44 (by kernel_rfl) rfl rfl ?_ ?_
    · repeat (first | (refine hp_new ?_; simp; done) | (refine hp_old ?_ ?_; · (simp <;> omega)))
    · rw [HW.out, HW.out]
      exact ⟨rfl, by repeat (first | exact Upd.refl _ _ | apply Upd.alloc)⟩
  · have HW : Hid (∀ a, tm n a = mul n a) := fun a => if_neg hn
    have H1 := hid (fun w => rmul_any n mn w (by omega) n2 h1 h2)
    have H2 := hid (fun w => rmul_any n mx w (by omega) n2 h3 h4)
    by_cases he : (1099511627776 : Int) ≤ mx
    · have HT : Hid (mul n mx = 1099511627776) := mul_top n mx (by omega) he
      go_enter Try.func78, Try.ntmps78
      go_wp2_with (refine (H1.out _).mono ?_; rintro e w' ⟨rfl, rfl⟩)
      refine ret_agg rfl Try.underlying44 rfl (w.heap.size + 1) #[.int .i64 (mul n mn), .int .i64 1099511627776] 44 (by kernel_rfl) rfl rfl ?_ ?_
      · repeat (first | (refine hp_new ?_; simp; done) | (refine hp_old ?_ ?_; · (simp <;> omega)))
      · rw [HW.out, HW.out, HT.out]
        exact ⟨rfl, by repeat (first | exact Upd.refl _ _ | apply Upd.alloc)⟩
    · go_enter Try.func78, Try.ntmps78
      go_wp2_with fail
      have hn : New w ((w.alloc (.cells #[.int .i64 mn, .int .i64 mx] 44)).alloc (.cells #[.int .i64 0, .int .i64 0] 44)).drew ∧ ((w.alloc (.cells #[.int .i64 mn, .int .i64 mx] 44)).alloc (.cells #[.int .i64 0, .int .i64 0] 44)).drew.cell? ⟨w.heap.size, 0, none⟩ = some (.int .i64 mn) ∧ ((w.alloc (.cells #[.int .i64 mn, .int .i64 mx] 44)).alloc (.cells #[.int .i64 0, .int .i64 0] 44)).drew.cell? ⟨w.heap.size, 1, none⟩ = some (.int .i64 mx) :=
        ⟨(((Upd.refl _ _).alloc _).alloc _).drew, by simp, by simp⟩
      refine wp_region_noPanic ?_
      refine wp_region_held_drew (S := (fun w' => New w w' ∧ w'.cell? ⟨w.heap.size, 0, none⟩ = some (.int .i64 mn) ∧ w'.cell? ⟨w.heap.size, 1, none⟩ = some (.int .i64 mx))) (by kernel_rfl) (by first | exact hn | exact (Upd.refl _ _).drew | exact Upd.drew (by assumption)) (fun hn => ?_)
      refine wpAnyH_take (i := 0) (oi := { dst := some 16, op := Op.move (Operand.tmp 1), type := 3, pos := "ref.go:57", after := #[], guard := none }) (v := ?v4x1) rfl (by kernel_rfl) (by kernel_rfl) (by kernel_rfl) (fun _ _ _ h => h) (Or.inl ⟨by rfl, ?y4x1⟩) hn ?r4x1
      case y4x1 => (intro wS hS; (try go_simp); (try with_reducible rfl))
      try simp only [Act.put, List.setIfInBounds_toArray, List.set_cons_zero, List.set_cons_succ]
      refine wpAnyH_take (i := 1) (oi := { dst := some 17, op := Op.fieldAddr 44 (Operand.tmp 2) 0, type := 0, pos := "ref.go:57", after := #[], guard := none }) (v := ?v4x2) rfl (by kernel_rfl) (by kernel_rfl) (by kernel_rfl) (fun _ _ _ h => h) (Or.inl ⟨by rfl, ?y4x2⟩) hn ?r4x2
      case y4x2 => (intro wS hS; (try go_simp); (try with_reducible rfl))
      try simp only [Act.put, List.setIfInBounds_toArray, List.set_cons_zero, List.set_cons_succ]
      refine wpAnyH_take (i := 2) (oi := { dst := some 18, op := Op.load 3 (Operand.tmp 17), type := 3, pos := "ref.go:57", after := #[{ on := 1, ground := Ground.data }], guard := none }) (v := ?v4x3) rfl (by kernel_rfl) (by kernel_rfl) (by kernel_rfl) (fun _ _ _ h => h) (Or.inl ⟨by rfl, ?y4x3⟩) hn ?r4x3
      case y4x3 => (intro wS hS; obtain ⟨_, c0, c1⟩ := hS; (try go_simp); (try with_reducible rfl))
      try simp only [Act.put, List.setIfInBounds_toArray, List.set_cons_zero, List.set_cons_succ]
      refine wpAnyH_take (i := 4) (oi := { dst := some 20, op := Op.move (Operand.tmp 1), type := 3, pos := "ref.go:57", after := #[], guard := none }) (v := ?v4x4) rfl (by kernel_rfl) (by kernel_rfl) (by kernel_rfl) (fun _ _ _ h => h) (Or.inl ⟨by rfl, ?y4x4⟩) hn ?r4x4
      case y4x4 => (intro wS hS; (try go_simp); (try with_reducible rfl))
      try simp only [Act.put, List.setIfInBounds_toArray, List.set_cons_zero, List.set_cons_succ]
      refine wpAnyH_take (i := 5) (oi := { dst := some 21, op := Op.fieldAddr 44 (Operand.tmp 2) 1, type := 0, pos := "ref.go:57", after := #[], guard := none }) (v := ?v4x5) rfl (by kernel_rfl) (by kernel_rfl) (by kernel_rfl) (fun _ _ _ h => h) (Or.inl ⟨by rfl, ?y4x5⟩) hn ?r4x5
      case y4x5 => (intro wS hS; (try go_simp); (try with_reducible rfl))
      try simp only [Act.put, List.setIfInBounds_toArray, List.set_cons_zero, List.set_cons_succ]
      refine wpAnyH_take (i := 6) (oi := { dst := some 22, op := Op.load 3 (Operand.tmp 21), type := 3, pos := "ref.go:57", after := #[{ on := 5, ground := Ground.data }], guard := none }) (v := ?v4x6) rfl (by kernel_rfl) (by kernel_rfl) (by kernel_rfl) (fun _ _ _ h => h) (Or.inl ⟨by rfl, ?y4x6⟩) hn ?r4x6
      case y4x6 => (intro wS hS; obtain ⟨_, c0, c1⟩ := hS; (try go_simp); (try with_reducible rfl))
      try simp only [Act.put, List.setIfInBounds_toArray, List.set_cons_zero, List.set_cons_succ]
      refine wpAnyH_ready (rs := [3]) (by kernel_rfl) (by simp) ?_
      refine AllReadyH.cons (o := { dst := some 19, op := Op.call { callee := Callee.value (Operand.func 81), args := #[Operand.tmp 16, Operand.tmp 18], argTypes := #[3, 3] }, type := 3, pos := "ref.go:57", after := #[{ on := 0, ground := Ground.data }, { on := 2, ground := Ground.data }], guard := none }) rfl (fun K hK => ?_) AllReadyH.nil
      go_simp
      refine (H1.out _).mono ?_
      rintro e wa ⟨rfl, rfl⟩
      go_wp2_with fail
      refine hK.out _ _ (by first | exact hn | exact Upd.alloc hn _ | (exact ⟨(((Upd.refl _ _).alloc _).alloc _).drew, by simp, by simp⟩)) (fun hn => ?_)
      clear hK K
      try simp only [Act.put, List.setIfInBounds_toArray, List.set_cons_zero, List.set_cons_succ]
      refine wpAnyH_ready (rs := [7]) (by kernel_rfl) (by simp) ?_
      refine AllReadyH.cons (o := { dst := some 23, op := Op.call { callee := Callee.value (Operand.func 81), args := #[Operand.tmp 20, Operand.tmp 22], argTypes := #[3, 3] }, type := 3, pos := "ref.go:57", after := #[{ on := 4, ground := Ground.data }, { on := 6, ground := Ground.data }, { on := 3, ground := Ground.chain }], guard := none }) rfl (fun K hK => ?_) AllReadyH.nil
      go_simp
      refine (H2.out _).mono ?_
      rintro e wa ⟨rfl, rfl⟩
      go_wp2_with fail
      refine hK.out _ _ (by first | exact hn | exact Upd.alloc hn _ | (exact ⟨(((Upd.refl _ _).alloc _).alloc _).drew, by simp, by simp⟩)) (fun hn => ?_)
      clear hK K
      try simp only [Act.put, List.setIfInBounds_toArray, List.set_cons_zero, List.set_cons_succ]
      refine wpAnyH_take (i := 8) (oi := { dst := some 24, op := Op.build 44 #[(0, Operand.tmp 19), (1, Operand.tmp 23)], type := 44, pos := "ref.go:57", after := #[{ on := 3, ground := Ground.data }, { on := 7, ground := Ground.data }], guard := none }) (v := ?v4x7) rfl (by kernel_rfl) (by kernel_rfl) (by kernel_rfl) (fun _ _ _ h => h) (Or.inl ⟨by rfl, ?y4x7⟩) hn ?r4x7
      case y4x7 => (intro wS hS; (try go_simp); (try with_reducible rfl))
      try simp only [Act.put, List.setIfInBounds_toArray, List.set_cons_zero, List.set_cons_succ]
      refine wpAnyH_ready (rs := [9]) (by kernel_rfl) (by simp) ?_
      refine AllReadyH.cons (o := { dst := none, op := Op.store 44 (Operand.tmp 4) (Operand.tmp 24), type := 0, pos := "ref.go:57", after := #[{ on := 8, ground := Ground.data }, { on := 7, ground := Ground.chain }, { on := 0, ground := Ground.phase }, { on := 1, ground := Ground.phase }, { on := 2, ground := Ground.phase }, { on := 3, ground := Ground.phase }, { on := 4, ground := Ground.phase }, { on := 5, ground := Ground.phase }, { on := 6, ground := Ground.phase }, { on := 7, ground := Ground.phase }, { on := 8, ground := Ground.phase }], guard := none }) rfl (fun K hK => ?_) AllReadyH.nil
      go_simp
      refine hK.out _ _ (by first | exact hn | exact Upd.alloc hn _ | (exact ⟨(((Upd.refl _ _).alloc _).alloc _).drew, by simp, by simp⟩)) (fun hn => ?_)
      clear hK K
      try simp only [Act.put, List.setIfInBounds_toArray, List.set_cons_zero, List.set_cons_succ]
      refine wpAnyH_done (by kernel_rfl) ?_ _
      refine NoPanic.normal ?_
      go_wp2_with fail
      refine ret_agg rfl Try.underlying44 rfl (w.heap.size + 1) #[.int .i64 (mul n mn), .int .i64 (mul n mx)] 44 (by kernel_rfl) rfl rfl ?_ ?_
      · repeat (first | (refine hp_new ?_; simp; done) | (refine hp_old ?_ ?_; · (simp <;> omega)))
      · rw [HW.out, HW.out]
        exact ⟨rfl, hn.1⟩
end Go.Proofs.Ytkfohickmdkplaa

namespace Go.Proofs.Ytkfohickmdkplaa
open Go.RowKit Go.Proofs.Own Go.Proofs.Span
set_option maxRecDepth 100000
set_option maxHeartbeats 800000

theorem ritem_any (mn mx : Int) (w : World) :
    Calls Try.prog 14 #[.agg #[.int .i64 mn, .int .i64 mx]] w fun e w' => e = .returned (.bool (itemB mn mx)) ∧ New w w' := by
  obtain ⟨c, hr⟩ : ∃ c, rightB mn mx = c := ⟨_, rfl⟩
  have HR := hid (right_any mn mx)
  rw [hr] at HR
  cases c with
  | false =>
    have HV : Hid (itemB mn mx = false) := by show _ = _; unfold itemB; rw [hr]; rfl
    clear hr
    go_enter Try.func14, Try.ntmps14
    go_wp2_with (go_at_call 15; refine (HR.out _).mono ?_; rintro e w' ⟨rfl, rfl⟩)
    go_ret
    exact ⟨by rw [HV.out]; rfl, by repeat (first | exact Upd.refl _ _ | apply Upd.alloc)⟩
  | true =>
    have HI : Hid (itemB mn mx = (decide (1 ≤ mn) && (decide (mn ≤ 31) && (decide (mx ≤ 31) || decide (1099511627776 ≤ mx))))) := by show _ = _; unfold itemB; rw [hr]; rfl
    clear hr
    by_cases h1 : (1 : Int) ≤ mn
    · by_cases h2 : mn ≤ 31
      · by_cases h3 : mx ≤ 31
        · have HV : Hid (itemB mn mx = true) := by show _ = _; rw [HI.out]; simp [h1, h2, h3]
          go_enter Try.func14, Try.ntmps14
          go_wp2_with (go_at_call 15; refine (HR.out _).mono ?_; rintro e w' ⟨rfl, rfl⟩)
          go_ret
          exact ⟨by rw [HV.out]; rfl, by repeat (first | exact Upd.refl _ _ | apply Upd.alloc)⟩
        · have HV : Hid (itemB mn mx = decide (1099511627776 ≤ mx)) := by show _ = _; rw [HI.out]; simp [h1, h2, h3]
          go_enter Try.func14, Try.ntmps14
          go_wp2_with (go_at_call 15; refine (HR.out _).mono ?_; rintro e w' ⟨rfl, rfl⟩)
          go_ret
          refine ⟨?_, by repeat (first | exact Upd.refl _ _ | apply Upd.alloc)⟩
          rw [HV.out]
          first | rfl | (show Ending.returned (Value.bool (decide (mx ≤ 31) || decide (1099511627776 ≤ mx))) = _; rw [decide_eq_false (by omega : ¬ mx ≤ 31)]; rfl)
      · have HV : Hid (itemB mn mx = false) := by show _ = _; rw [HI.out]; simp [h1, h2]
        go_enter Try.func14, Try.ntmps14
        go_wp2_with (go_at_call 15; refine (HR.out _).mono ?_; rintro e w' ⟨rfl, rfl⟩)
        go_ret
        exact ⟨by rw [HV.out]; rfl, by repeat (first | exact Upd.refl _ _ | apply Upd.alloc)⟩
    · have HV : Hid (itemB mn mx = false) := by show _ = _; rw [HI.out]; simp [h1]
      go_enter Try.func14, Try.ntmps14
      go_wp2_with (go_at_call 15; refine (HR.out _).mono ?_; rintro e w' ⟨rfl, rfl⟩)
      go_ret
      exact ⟨by rw [HV.out]; rfl, by repeat (first | exact Upd.refl _ _ | apply Upd.alloc)⟩

theorem parts_any (on ox bn bx r v : Int) (w : World) (r0 : 0 ≤ r) (r1 : r ≤ 1099511627776) (v0 : 0 ≤ v) (v1 : v ≤ 4294967295) :
    Calls Try.prog 74 #[.agg #[.int .i64 on, .int .i64 ox], .agg #[.int .i64 bn, .int .i64 bx], .int .i64 r, .int .i64 v] w fun e w' =>
      e = .returned (.bool (parts on ox bn bx r v)) ∧ New w w' := by
  obtain ⟨c, hh⟩ : ∃ c, has on ox v = c := ⟨_, rfl⟩
  have HH := hid (rhas_any on ox v)
  have HG := hid (rhas_any bn bx (r - v))
  rw [hh] at HH
  cases c with
  | false =>
    have HV : Hid (parts on ox bn bx r v = false) := by show _ = _; unfold parts; rw [if_pos (.inl hh)]
    clear hh
    go_enter Try.func74, Try.ntmps74
    go_wp2_with (go_at_call 67; refine (HH.out _).mono ?_; rintro e w' ⟨rfl, rfl⟩)
    go_ret
    exact ⟨by rw [HV.out]; rfl, by repeat (first | exact Upd.refl _ _ | apply Upd.alloc)⟩
  | true =>
    by_cases h1 : (1099511627776 : Int) ≤ r
    · have HV : Hid (parts on ox bn bx r v = decide (1099511627776 ≤ bx)) := by
        show _ = _; unfold parts; rw [if_neg (by rw [hh]; simp; omega), if_pos h1]
      clear hh
      go_enter Try.func74, Try.ntmps74
      go_wp2_with (go_at_call 67; refine (HH.out _).mono ?_; rintro e w' ⟨rfl, rfl⟩)
      go_ret
      exact ⟨by rw [HV.out]; rfl, by repeat (first | exact Upd.refl _ _ | apply Upd.alloc)⟩
    · by_cases h2 : r < v
      · have HV : Hid (parts on ox bn bx r v = false) := by show _ = _; unfold parts; rw [if_pos (.inr ⟨by omega, h2⟩)]
        clear hh
        go_enter Try.func74, Try.ntmps74
        go_wp2_with (go_at_call 67; refine (HH.out _).mono ?_; rintro e w' ⟨rfl, rfl⟩)
        go_ret
        exact ⟨by rw [HV.out]; rfl, by repeat (first | exact Upd.refl _ _ | apply Upd.alloc)⟩
      · have HV : Hid (parts on ox bn bx r v = has bn bx (r - v)) := by
          show _ = _; unfold parts; rw [if_neg (by rw [hh]; simp; omega), if_neg h1]
        clear hh
        go_enter Try.func74, Try.ntmps74
        go_wp2_with fail
        refine (HH.out _).mono ?_
        rintro e w' ⟨rfl, rfl⟩
        go_wp2_with fail
        refine (HG.out _).mono ?_
        rintro e w' ⟨rfl, rfl⟩
        go_wp2_with fail
        go_ret
        exact ⟨by rw [HV.out]; rfl, by repeat (first | exact Upd.refl _ _ | apply Upd.alloc)⟩
end Go.Proofs.Ytkfohickmdkplaa

namespace Go.Proofs.Ytkfohickmdkplaa
open Go.RowKit Go.Proofs.Own Go.Proofs.Span
set_option maxRecDepth 100000
set_option maxHeartbeats 800000

theorem tm_bd {n a : Int} (h : 0 ≤ a) : 0 ≤ tm n a ∧ tm n a ≤ 1099511627776 := by
  unfold tm mul
  split
  · omega
  · have := Int.mul_nonneg (a := n) (b := a) (by omega) h
    split <;> omega

theorem makes_any (ix mx bn bx r n : Int) (w : World) (h1 : 0 ≤ ix) (h2 : ix ≤ 9223372036854775807) (h3 : 0 ≤ mx) (h4 : mx ≤ 9223372036854775807) (h5 : 0 ≤ bn) (h6 : bn ≤ 274877906944) (h7 : 0 ≤ bx) (n0 : 0 ≤ n) (n1 : n ≤ 4294967295) :
    Calls Try.prog 73 #[.agg #[.int .i64 ix, .int .i64 mx], .agg #[.int .i64 bn, .int .i64 bx], .int .i64 r, .int .i64 n] w fun e w' =>
      e = .returned (.bool (makes ix mx bn bx r n)) ∧ New w w' := by
  have HT := hid (fun w => rTimes_any ix mx n w h1 h2 h3 h4 (by omega))
  have tb := tm_bd (n := n) h1
  have tc := tm_bd (n := n) h3
  have HA := hid (fun w => rand_any (tm n ix) (tm n mx) bn bx w tb.1 (by omega) h5 (by omega) tc.1 h7)
  have HM : Hid (makes ix mx bn bx r n = (has (tm n ix + bn) (most (tm n mx) bx) r && (decide (r < 1099511627776) || decide (1099511627776 ≤ most (tm n mx) bx)))) := by
    show _ = _
    unfold makes tm
    by_cases hz : n ≤ 0
    · simp only [if_pos hz]
    · simp only [if_neg hz]
      by_cases he : (1099511627776 : Int) ≤ mx
      · rw [if_pos he, mul_top n mx (by omega) he]
      · rw [if_neg he]
  generalize most (tm n mx) bx = M at *
  generalize tm n ix + bn = B at *
  have HH := hid (fun w => rhas_any B M r w)
  go_enter Try.func73, Try.ntmps73
  go_upto_region 1 with fail
  obtain ⟨w1, hw1⟩ : ∃ w1, (w.alloc (.cells #[.int .i64 ix, .int .i64 mx] 44)).alloc (.cells #[.int .i64 bn, .int .i64 bx] 44) = w1 := ⟨_, rfl⟩
  have h01 : New w w1 := by rw [← hw1]; exact ((Upd.refl _ _).alloc _).alloc _
  have k0 : w1.cell? ⟨w.heap.size, 0, none⟩ = some (.int .i64 ix) := by rw [← hw1]; simp
  have k1 : w1.cell? ⟨w.heap.size, 1, none⟩ = some (.int .i64 mx) := by rw [← hw1]; simp
  have k2 : w1.cell? ⟨w.heap.size + 1, 0, none⟩ = some (.int .i64 bn) := by rw [← hw1]; simp
  have k3 : w1.cell? ⟨w.heap.size + 1, 1, none⟩ = some (.int .i64 bx) := by rw [← hw1]; simp
  rw [hw1]
  have K0 := hid k0
  have K1 := hid k1
  have K2 := hid k2
  have K3 := hid k3
  clear k0 k1 k2 k3 hw1
  have hn : New w1 w1.drew := (Upd.refl _ _).drew
  go_cut [9] (fun p wx => ∃ g, p = .pointer (some ⟨g, 0, none⟩) ∧ New w wx ∧ wx.cell? ⟨g, 0, none⟩ = some (.int .i64 B) ∧ wx.cell? ⟨g, 1, none⟩ = some (.int .i64 M))
  case first =>
    refine wp_region_noPanic ?_
    refine wp_region_held_drew (S := (New w1)) (by kernel_rfl) (by first | exact hn | exact (Upd.refl _ _).drew | exact Upd.drew (by assumption)) (fun hn => ?_)
    refine wpAnyH_take (i := 0) (oi := { dst := some 10, op := Op.load 44 (Operand.tmp 4), type := 44, pos := "ref.go:62", after := #[], guard := none }) (v := ?v5x1) rfl (by kernel_rfl) (by kernel_rfl) (by kernel_rfl) (fun _ _ _ h => h) (Or.inl ⟨by rfl, ?y5x1⟩) hn ?r5x1
    case y5x1 => (intro wS hS; have c0 := hS.cell K0.out (fun h => h); have c1 := hS.cell K1.out (fun h => h); (try go_simp); (try with_reducible rfl))
    try simp only [Act.put, List.setIfInBounds_toArray, List.set_cons_zero, List.set_cons_succ]
    refine wpAnyH_take (i := 1) (oi := { dst := some 11, op := Op.move (Operand.tmp 3), type := 3, pos := "ref.go:62", after := #[], guard := none }) (v := ?v5x2) rfl (by kernel_rfl) (by kernel_rfl) (by kernel_rfl) (fun _ _ _ h => h) (Or.inl ⟨by rfl, ?y5x2⟩) hn ?r5x2
    case y5x2 => (intro wS hS; (try go_simp); (try with_reducible rfl))
    try simp only [Act.put, List.setIfInBounds_toArray, List.set_cons_zero, List.set_cons_succ]
    refine wpAnyH_take (i := 3) (oi := { dst := some 13, op := Op.load 44 (Operand.tmp 5), type := 44, pos := "ref.go:62", after := #[], guard := none }) (v := ?v5x3) rfl (by kernel_rfl) (by kernel_rfl) (by kernel_rfl) (fun _ _ _ h => h) (Or.inl ⟨by rfl, ?y5x3⟩) hn ?r5x3
    case y5x3 => (intro wS hS; have c2 := hS.cell K2.out (fun h => h); have c3 := hS.cell K3.out (fun h => h); (try go_simp); (try with_reducible rfl))
    try simp only [Act.put, List.setIfInBounds_toArray, List.set_cons_zero, List.set_cons_succ]
    refine wpAnyH_ready (rs := [2, 5]) (by kernel_rfl) (by simp) ?_
    refine AllReadyH.cons (o := { dst := some 12, op := Op.call { callee := Callee.value (Operand.func 78), args := #[Operand.tmp 10, Operand.tmp 11], argTypes := #[44, 3] }, type := 44, pos := "ref.go:62", after := #[{ on := 0, ground := Ground.data }, { on := 1, ground := Ground.data }], guard := none }) rfl (fun K hK => ?_) ?_
    · skip
      go_simp
      refine (HT.out _).mono ?_
      rintro e wa ⟨rfl, hna⟩
      go_wp2_with fail
      have hn := New.trans hn hna
      have hq := hn
      refine hK.out _ _ (by first | exact hn | exact Upd.alloc hn _ | (exact Upd.alloc hq _) | (exact Upd.setCell (Upd.setCell hn (.inl (Nat.le_refl _)) _) (.inl (Nat.le_refl _)) _) | (exact Upd.setCell (Upd.setCell hn (.inl hq.size) _) (.inl hq.size) _)) (fun hn => ?_)
      clear hK K
      try simp only [Act.put, List.setIfInBounds_toArray, List.set_cons_zero, List.set_cons_succ]
      refine wpAnyH_ready (rs := [4, 5]) (by kernel_rfl) (by simp) ?_
      refine AllReadyH.cons (o := { dst := some 14, op := Op.call { callee := Callee.value (Operand.func 77), args := #[Operand.tmp 12, Operand.tmp 13], argTypes := #[44, 44] }, type := 44, pos := "ref.go:62", after := #[{ on := 2, ground := Ground.data }, { on := 3, ground := Ground.data }, { on := 2, ground := Ground.chain }], guard := none }) rfl (fun K hK => ?_) ?_
      · skip
        go_simp
        refine (HA.out _).mono ?_
        rintro e wb ⟨rfl, hnb⟩
        go_wp2_with fail
        have hn := New.trans hn hnb
        have hq := hn
        refine hK.out _ _ (by first | exact hn | exact Upd.alloc hn _ | (exact Upd.alloc hq _) | (exact Upd.setCell (Upd.setCell hn (.inl (Nat.le_refl _)) _) (.inl (Nat.le_refl _)) _) | (exact Upd.setCell (Upd.setCell hn (.inl hq.size) _) (.inl hq.size) _)) (fun hn => ?_)
        clear hK K
        try simp only [Act.put, List.setIfInBounds_toArray, List.set_cons_zero, List.set_cons_succ]
        refine wpAnyH_ready (rs := [5]) (by kernel_rfl) (by simp) ?_
        refine AllReadyH.cons (o := { dst := some 9, op := Op.alloc 44, type := 0, pos := "ref.go:62", after := #[], guard := none }) rfl (fun K hK => ?_) AllReadyH.nil
        go_simp
        refine hK.out _ _ (by first | exact hn | exact Upd.alloc hn _ | (exact Upd.alloc hq _) | (exact Upd.setCell (Upd.setCell hn (.inl (Nat.le_refl _)) _) (.inl (Nat.le_refl _)) _) | (exact Upd.setCell (Upd.setCell hn (.inl hq.size) _) (.inl hq.size) _)) (fun hn => ?_)
        clear hK K
        try simp only [Act.put, List.setIfInBounds_toArray, List.set_cons_zero, List.set_cons_succ]
        refine wpAnyH_ready (rs := [6]) (by kernel_rfl) (by simp) ?_
        refine AllReadyH.cons (o := { dst := none, op := Op.store 44 (Operand.tmp 9) (Operand.tmp 14), type := 0, pos := "ref.go:62", after := #[{ on := 5, ground := Ground.data }, { on := 4, ground := Ground.data }, { on := 4, ground := Ground.chain }, { on := 0, ground := Ground.phase }, { on := 1, ground := Ground.phase }, { on := 2, ground := Ground.phase }, { on := 3, ground := Ground.phase }, { on := 4, ground := Ground.phase }, { on := 5, ground := Ground.phase }], guard := none }) rfl (fun K hK => ?_) AllReadyH.nil
        first | (have z0 := hz.c0; have z1 := hz.c1; have f0 := hz.f 0; have f1 := hz.f 1; go_simp) | go_simp
        refine hK.out _ _ (by first | exact hn | exact Upd.alloc hn _ | (exact Upd.alloc hq _) | (exact Upd.setCell (Upd.setCell hn (.inl (Nat.le_refl _)) _) (.inl (Nat.le_refl _)) _) | (exact Upd.setCell (Upd.setCell hn (.inl hq.size) _) (.inl hq.size) _)) (fun hn => ?_)
        clear hK K
        try simp only [Act.put, List.setIfInBounds_toArray, List.set_cons_zero, List.set_cons_succ]
        refine wpAnyH_done (by kernel_rfl) ?_ _
        refine NoPanic.normal ?_
        go_wp2_with fail
        go_meet
        refine ⟨_, rfl, New.trans h01 hn, ?_, ?_⟩
        · first | exact Blk.put0 hz | (simp; done)
        · first | exact Blk.put1 hz | (simp; done)
      refine AllReadyH.cons (o := { dst := some 9, op := Op.alloc 44, type := 0, pos := "ref.go:62", after := #[], guard := none }) rfl (fun K hK => ?_) AllReadyH.nil
      go_simp
      refine hK.out _ _ (by first | exact hn | exact Upd.alloc hn _ | (exact Upd.alloc hq _) | (exact Upd.setCell (Upd.setCell hn (.inl (Nat.le_refl _)) _) (.inl (Nat.le_refl _)) _) | (exact Upd.setCell (Upd.setCell hn (.inl hq.size) _) (.inl hq.size) _)) (fun hn => ?_)
      clear hK K
      try simp only [Act.put, List.setIfInBounds_toArray, List.set_cons_zero, List.set_cons_succ]
      refine wpAnyH_ready (rs := [4]) (by kernel_rfl) (by simp) ?_
      refine AllReadyH.cons (o := { dst := some 14, op := Op.call { callee := Callee.value (Operand.func 77), args := #[Operand.tmp 12, Operand.tmp 13], argTypes := #[44, 44] }, type := 44, pos := "ref.go:62", after := #[{ on := 2, ground := Ground.data }, { on := 3, ground := Ground.data }, { on := 2, ground := Ground.chain }], guard := none }) rfl (fun K hK => ?_) AllReadyH.nil
      go_simp
      refine (HA.out _).mono ?_
      rintro e wb ⟨rfl, hnb⟩
      go_wp2_with fail
      have hn := New.trans hn hnb
      first | have hz := Blk.new hz hnb | have hz := Blk.of hnb
      refine hK.out _ _ (by first | exact hn | exact Upd.alloc hn _ | (exact Upd.alloc hq _) | (exact Upd.setCell (Upd.setCell hn (.inl (Nat.le_refl _)) _) (.inl (Nat.le_refl _)) _) | (exact Upd.setCell (Upd.setCell hn (.inl hq.size) _) (.inl hq.size) _)) (fun hn => ?_)
      clear hK K
      try simp only [Act.put, List.setIfInBounds_toArray, List.set_cons_zero, List.set_cons_succ]
      refine wpAnyH_ready (rs := [6]) (by kernel_rfl) (by simp) ?_
      refine AllReadyH.cons (o := { dst := none, op := Op.store 44 (Operand.tmp 9) (Operand.tmp 14), type := 0, pos := "ref.go:62", after := #[{ on := 5, ground := Ground.data }, { on := 4, ground := Ground.data }, { on := 4, ground := Ground.chain }, { on := 0, ground := Ground.phase }, { on := 1, ground := Ground.phase }, { on := 2, ground := Ground.phase }, { on := 3, ground := Ground.phase }, { on := 4, ground := Ground.phase }, { on := 5, ground := Ground.phase }], guard := none }) rfl (fun K hK => ?_) AllReadyH.nil
      first | (have z0 := hz.c0; have z1 := hz.c1; have f0 := hz.f 0; have f1 := hz.f 1; go_simp) | go_simp
      refine hK.out _ _ (by first | exact hn | exact Upd.alloc hn _ | (exact Upd.alloc hq _) | (exact Upd.setCell (Upd.setCell hn (.inl (Nat.le_refl _)) _) (.inl (Nat.le_refl _)) _) | (exact Upd.setCell (Upd.setCell hn (.inl hq.size) _) (.inl hq.size) _)) (fun hn => ?_)
      clear hK K
      try simp only [Act.put, List.setIfInBounds_toArray, List.set_cons_zero, List.set_cons_succ]
      refine wpAnyH_done (by kernel_rfl) ?_ _
      refine NoPanic.normal ?_
      go_wp2_with fail
      go_meet
      refine ⟨_, rfl, New.trans h01 hn, ?_, ?_⟩
      · first | exact Blk.put0 hz | (simp; done)
      · first | exact Blk.put1 hz | (simp; done)
    refine AllReadyH.cons (o := { dst := some 9, op := Op.alloc 44, type := 0, pos := "ref.go:62", after := #[], guard := none }) rfl (fun K hK => ?_) AllReadyH.nil
    go_simp
    refine hK.out _ _ (by first | exact hn | exact Upd.alloc hn _ | (exact Upd.alloc hq _) | (exact Upd.setCell (Upd.setCell hn (.inl (Nat.le_refl _)) _) (.inl (Nat.le_refl _)) _) | (exact Upd.setCell (Upd.setCell hn (.inl hq.size) _) (.inl hq.size) _)) (fun hn => ?_)
    clear hK K
    try simp only [Act.put, List.setIfInBounds_toArray, List.set_cons_zero, List.set_cons_succ]
    refine wpAnyH_ready (rs := [2]) (by kernel_rfl) (by simp) ?_
    refine AllReadyH.cons (o := { dst := some 12, op := Op.call { callee := Callee.value (Operand.func 78), args := #[Operand.tmp 10, Operand.tmp 11], argTypes := #[44, 3] }, type := 44, pos := "ref.go:62", after := #[{ on := 0, ground := Ground.data }, { on := 1, ground := Ground.data }], guard := none }) rfl (fun K hK => ?_) AllReadyH.nil
    go_simp
    refine (HT.out _).mono ?_
    rintro e wa ⟨rfl, hna⟩
    go_wp2_with fail
    have hz := Blk.ofDrew hna
    have hn := New.trans hn hna
    refine hK.out _ _ (by first | exact hn | exact Upd.alloc hn _ | (exact Upd.alloc hq _) | (exact Upd.setCell (Upd.setCell hn (.inl (Nat.le_refl _)) _) (.inl (Nat.le_refl _)) _) | (exact Upd.setCell (Upd.setCell hn (.inl hq.size) _) (.inl hq.size) _)) (fun hn => ?_)
    clear hK K
    try simp only [Act.put, List.setIfInBounds_toArray, List.set_cons_zero, List.set_cons_succ]
    refine wpAnyH_ready (rs := [4]) (by kernel_rfl) (by simp) ?_
    refine AllReadyH.cons (o := { dst := some 14, op := Op.call { callee := Callee.value (Operand.func 77), args := #[Operand.tmp 12, Operand.tmp 13], argTypes := #[44, 44] }, type := 44, pos := "ref.go:62", after := #[{ on := 2, ground := Ground.data }, { on := 3, ground := Ground.data }, { on := 2, ground := Ground.chain }], guard := none }) rfl (fun K hK => ?_) AllReadyH.nil
    go_simp
    refine (HA.out _).mono ?_
    rintro e wb ⟨rfl, hnb⟩
    go_wp2_with fail
    have hn := New.trans hn hnb
    first | have hz := Blk.new hz hnb | have hz := Blk.of hnb
    refine hK.out _ _ (by first | exact hn | exact Upd.alloc hn _ | (exact Upd.alloc hq _) | (exact Upd.setCell (Upd.setCell hn (.inl (Nat.le_refl _)) _) (.inl (Nat.le_refl _)) _) | (exact Upd.setCell (Upd.setCell hn (.inl hq.size) _) (.inl hq.size) _)) (fun hn => ?_)
    clear hK K
    try simp only [Act.put, List.setIfInBounds_toArray, List.set_cons_zero, List.set_cons_succ]
    refine wpAnyH_ready (rs := [6]) (by kernel_rfl) (by simp) ?_
    refine AllReadyH.cons (o := { dst := none, op := Op.store 44 (Operand.tmp 9) (Operand.tmp 14), type := 0, pos := "ref.go:62", after := #[{ on := 5, ground := Ground.data }, { on := 4, ground := Ground.data }, { on := 4, ground := Ground.chain }, { on := 0, ground := Ground.phase }, { on := 1, ground := Ground.phase }, { on := 2, ground := Ground.phase }, { on := 3, ground := Ground.phase }, { on := 4, ground := Ground.phase }, { on := 5, ground := Ground.phase }], guard := none }) rfl (fun K hK => ?_) AllReadyH.nil
    first | (have z0 := hz.c0; have z1 := hz.c1; have f0 := hz.f 0; have f1 := hz.f 1; go_simp) | go_simp
    refine hK.out _ _ (by first | exact hn | exact Upd.alloc hn _ | (exact Upd.alloc hq _) | (exact Upd.setCell (Upd.setCell hn (.inl (Nat.le_refl _)) _) (.inl (Nat.le_refl _)) _) | (exact Upd.setCell (Upd.setCell hn (.inl hq.size) _) (.inl hq.size) _)) (fun hn => ?_)
    clear hK K
    try simp only [Act.put, List.setIfInBounds_toArray, List.set_cons_zero, List.set_cons_succ]
    refine wpAnyH_done (by kernel_rfl) ?_ _
    refine NoPanic.normal ?_
    go_wp2_with fail
    go_meet
    refine ⟨_, rfl, New.trans h01 hn, ?_, ?_⟩
    · first | exact Blk.put0 hz | (simp; done)
    · first | exact Blk.put1 hz | (simp; done)
  case rest =>
    obtain ⟨g, rfl, hw, hg0, hg1⟩ := hcut
    have hg2 : (wc.alloc (.cells #[.int .i64 B, .int .i64 M] 44)).cell? ⟨g, 1, none⟩ = some (.int .i64 M) := ((Upd.refl (fun _ => False) wc).alloc _).cell hg1 (fun h => h)
    obtain ⟨c, hh⟩ : ∃ c, has B M r = c := ⟨_, rfl⟩
    rw [hh] at HH HM
    clear hh hn
    cases c with
    | false =>
      have HV : Hid (makes ix mx bn bx r n = false) := by show _ = _; rw [HM.out]; rfl
      go_wp2_with (go_at_call 67; refine (HH.out _).mono ?_; rintro e w' ⟨rfl, rfl⟩)
      go_ret
      exact ⟨by rw [HV.out]; rfl, hw.alloc _⟩
    | true =>
      by_cases q1 : r < 1099511627776
      · have HV : Hid (makes ix mx bn bx r n = true) := by show _ = _; rw [HM.out, decide_eq_true q1]; rfl
        go_wp2_with (go_at_call 67; refine (HH.out _).mono ?_; rintro e w' ⟨rfl, rfl⟩)
        go_ret
        exact ⟨by rw [HV.out]; rfl, hw.alloc _⟩
      · have HV : Hid (makes ix mx bn bx r n = decide (1099511627776 ≤ M)) := by show _ = _; rw [HM.out, decide_eq_false q1]; simp
        go_wp2_with (go_at_call 67; refine (HH.out _).mono ?_; rintro e w' ⟨rfl, rfl⟩)
        go_ret
        refine ⟨?_, hw.alloc _⟩
        rw [HV.out]
        first | rfl | (show Ending.returned (Value.bool (decide (r < 1099511627776) || decide (1099511627776 ≤ M))) = _; rw [decide_eq_false (by omega : ¬ r < 1099511627776)]; rfl)
end Go.Proofs.Ytkfohickmdkplaa

namespace Go.Proofs.Ytkfohickmdkplaa
open Go.RowKit Go.Proofs.Leb Go.Proofs.Own Go.Proofs.Cur
set_option maxRecDepth 100000
set_option maxHeartbeats 4000000

theorem rHasR_any (mn mx r : Int) (w : World) (_ : 0 ≤ mn) :
    Calls Try.prog 50 #[.agg #[.int .i64 mn, .int .i64 mx], .int .i64 r] w (Yes (hasR mn mx r) w) := by
  by_cases h1 : (1099511627776 : Int) ≤ r
  · have HS : Hid (hasR mn mx r ↔ 1099511627776 ≤ mx) := by show _ ↔ _; unfold hasR; rw [if_pos h1]
    go_enter Try.func50, Try.ntmps50
    go_wp2_with fail
    go_ret
    exact ⟨_, rfl, by rw [HS.out]; simp, (Upd.refl _ _).alloc _⟩
  · have HH := hid (fun w => rhas_any mn mx r w)
    by_cases h0 : 0 ≤ r
    · have HS : Hid (hasR mn mx r ↔ Span.has mn mx r = true) := by show _ ↔ _; unfold hasR Span.has; rw [if_neg h1]; simp; omega
      go_enter Try.func50, Try.ntmps50
      go_wp2_with fail
      refine (HH.out _).mono ?_
      rintro e w1 ⟨rfl, rfl⟩
      go_wp2_with fail
      go_ret
      exact ⟨_, rfl, by rw [HS.out], (by repeat (first | exact Upd.refl _ _ | apply Upd.alloc))⟩
    · have HS : Hid (¬ hasR mn mx r) := by show ¬ _; unfold hasR; rw [if_neg h1]; omega
      go_enter Try.func50, Try.ntmps50
      go_wp2_with fail
      go_ret
      exact ⟨false, rfl, by simp; exact HS.out, (Upd.refl _ _).alloc _⟩

/-- a slice of picks that can be read -/
def RdK (w : World) (v : Value) (ps : List (Nat × Int × Int)) : Prop :=
  ∃ a cap, v = .slice a ps.length cap ∧ ps.length ≤ cap ∧ (a = none → cap = 0) ∧ (ps ≠ [] → ∃ b o, a = some ⟨b, o, none⟩ ∧
    ∀ i (h : i < ps.length), w.cell? ⟨b, o + i * 3, none⟩ = some (.int .u64 ps[i].1) ∧ w.cell? ⟨b, o + i * 3 + 1, none⟩ = some (.int .i64 ps[i].2.1) ∧ w.cell? ⟨b, o + i * 3 + 1 + 1, none⟩ = some (.int .i64 ps[i].2.2))
theorem RdK.upd {S : Nat → Prop} {w w' : World} {v : Value} {ps : List (Nat × Int × Int)} (h : RdK w v ps) (hu : Upd S w w') (hv : ps ≠ [] → ∀ k, v.ownBlock = some k → ¬ S k) : RdK w' v ps := by
  obtain ⟨a, cap, rfl, h1, h2, h3⟩ := h
  refine ⟨a, cap, rfl, h1, h2, fun hne => ?_⟩
  obtain ⟨b, o, rfl, hc⟩ := h3 hne
  have hb := hv hne b rfl
  exact ⟨b, o, rfl, fun i hi => ⟨hu.cell (hc i hi).1 hb, hu.cell (hc i hi).2.1 hb, hu.cell (hc i hi).2.2 hb⟩⟩
theorem RdK.new {w w' : World} {v : Value} {ps : List (Nat × Int × Int)} (h : RdK w v ps) (hn : New w w') : RdK w' v ps := h.upd hn (fun _ _ _ h => h)
theorem RdK.shape {w : World} {v : Value} {ps : List (Nat × Int × Int)} (h : RdK w v ps) : ∃ a cap, v = .slice a ps.length cap := by obtain ⟨a, cap, h, -⟩ := h; exact ⟨a, cap, h⟩

/-- a want of the document, by value -/
def valW (x : Wnt) (pv : Value) : Array Value := #[.int .i64 x.kind, .int .u64 x.lo, .int .u64 x.hi, .int .i64 x.i1, .int .i64 x.i2, .int .i64 x.o1, .int .i64 x.o2, .int .i64 x.b1, .int .i64 x.b2, pv]

theorem May_out (x : Wnt) (pv : Value) (n : Nat) (r : Int) (w : World) (h : r < 0 ∨ 4294967296 ≤ n) :
    Calls Try.prog 62 #[.agg (valW x pv), .int .u64 n, .int .i64 r] w (Yes (x.may r n) w) := by
  have HF : Hid (¬ x.may r n) := by show ¬ _; unfold Wnt.may; omega
  unfold valW
  by_cases hr : r < 0
  · go_enter Try.func62, Try.ntmps62
    go_wp2_with fail
    go_ret
    exact ⟨false, rfl, by simp; exact HF.out, (Upd.refl _ _).alloc _⟩
  · have hn : (4294967295 : Int) < n := by omega
    clear h
    go_enter Try.func62, Try.ntmps62
    go_wp2_with fail
    go_ret
    exact ⟨false, rfl, by simp; exact HF.out, (Upd.refl _ _).alloc _⟩

theorem May0 (x : Wnt) (pv : Value) (n : Nat) (r : Int) (w : World) (hk : x.kind = 0) (hf : x.Fine) (hr : 0 ≤ r) (hn : n < 4294967296) :
    Calls Try.prog 62 #[.agg (valW x pv), .int .u64 n, .int .i64 r] w (Yes (x.may r n) w) := by
  have HF : Hid (x.may r n ↔ x.lo ≤ n ∧ n ≤ x.hi ∧ hasR x.b1 x.b2 r) := by show _ ↔ _; unfold Wnt.may; rw [if_pos hk]; simp [hr, hn]
  have hb := hf.beh (.inl hk)
  have HH := hid (fun w => rHasR_any x.b1 x.b2 r w hb.1)
  obtain ⟨kind, lo, hi, i1, i2, o1, o2, b1, b2, ps⟩ := x
  subst hk
  unfold valW
  simp only at *
  have h0 : ¬ r < 0 := by omega
  have h1 : ¬ (4294967295 : Int) < n := by omega
  clear hf hb
  by_cases c1 : lo ≤ n
  · by_cases c2 : n ≤ hi
    · have c1' : (lo : Int) ≤ n := by omega
      have c2' : (n : Int) ≤ hi := by omega
      go_enter Try.func62, Try.ntmps62
      go_wp2_with fail
      refine (HH.out _).mono ?_
      rintro e w1 ⟨b, rfl, hb, hn1⟩
      have HB := hid hb
      have HN := hid hn1
      clear hb hn1
      go_wp2_with fail
      go_ret
      exact ⟨b, rfl, by rw [HF.out, HB.out]; simp [c1, c2], Upd.trans ((Upd.refl _ _).alloc _) HN.out (fun _ _ h => h)⟩
    · have c1' : (lo : Int) ≤ n := by omega
      have c2' : ¬ (n : Int) ≤ hi := by omega
      go_enter Try.func62, Try.ntmps62
      go_wp2_with fail
      go_ret
      exact ⟨false, rfl, by rw [HF.out]; simp; omega, (Upd.refl _ _).alloc _⟩
  · have c1' : ¬ (lo : Int) ≤ n := by omega
    go_enter Try.func62, Try.ntmps62
    go_wp2_with fail
    go_ret
    exact ⟨false, rfl, by rw [HF.out]; simp; omega, (Upd.refl _ _).alloc _⟩

theorem May1 (x : Wnt) (pv : Value) (n : Nat) (r : Int) (w : World) (hk : x.kind = 1) (hf : x.Fine) (hr : 0 ≤ r) (hn : n < 4294967296) :
    Calls Try.prog 62 #[.agg (valW x pv), .int .u64 n, .int .i64 r] w (Yes (x.may r n) w) := by
  have HF : Hid (x.may r n ↔ Span.makes x.i1 x.i2 x.b1 x.b2 r n = true) := by show _ ↔ _; unfold Wnt.may; rw [if_neg (by omega), if_pos hk]; simp [hr, hn]
  have hb := hf.beh (.inr (.inl hk))
  obtain ⟨⟨a1, a2, a3, a4⟩, a5, a6, a7⟩ := hf.item hk
  obtain ⟨d1, d2, d3, d4⟩ := hb
  have hm := hf.i64
  have HM := hid (fun w => makes_any x.i1 x.i2 x.b1 x.b2 r n w a1 (by omega) (by omega) hm.1 d1 d3 (by omega) (by omega) (by omega))
  obtain ⟨kind, lo, hi, i1, i2, o1, o2, b1, b2, ps⟩ := x
  subst hk
  unfold valW
  simp only at *
  have h0 : ¬ r < 0 := by omega
  have h1 : ¬ (4294967295 : Int) < n := by omega
  clear hf a1 a2 a3 a4 a5 a6 a7 d1 d2 d3 d4 hm
  go_enter Try.func62, Try.ntmps62
  go_wp2_with fail
  refine (HM.out _).mono ?_
  rintro e w1 ⟨rfl, hn1⟩
  have HN := hid hn1
  clear hn1
  go_wp2_with fail
  go_ret
  exact ⟨_, rfl, by rw [HF.out], Upd.trans ((Upd.refl _ _).alloc _) HN.out (fun _ _ h => h)⟩

theorem May2 (x : Wnt) (pv : Value) (n : Nat) (r : Int) (w : World) (hk : x.kind = 2) (hr : 0 ≤ r) (hr1 : r ≤ 1099511627776) (hn : n < 4294967296) :
    Calls Try.prog 62 #[.agg (valW x pv), .int .u64 n, .int .i64 r] w (Yes (x.may r n) w) := by
  have HF : Hid (x.may r n ↔ Span.parts x.o1 x.o2 x.b1 x.b2 r n = true) := by show _ ↔ _; unfold Wnt.may; rw [if_neg (by omega), if_neg (by omega), if_pos hk]; simp [hr, hn]
  have HM := hid (fun w => parts_any x.o1 x.o2 x.b1 x.b2 r n w hr hr1 (by omega) (by omega))
  obtain ⟨kind, lo, hi, i1, i2, o1, o2, b1, b2, ps⟩ := x
  subst hk
  unfold valW
  simp only at *
  have h0 : ¬ r < 0 := by omega
  have h1 : ¬ (4294967295 : Int) < n := by omega
  go_enter Try.func62, Try.ntmps62
  go_wp2_with fail
  refine (HM.out _).mono ?_
  rintro e w1 ⟨rfl, hn1⟩
  have HN := hid hn1
  clear hn1
  go_wp2_with fail
  go_ret
  exact ⟨_, rfl, by rw [HF.out], Upd.trans ((Upd.refl _ _).alloc _) HN.out (fun _ _ h => h)⟩

theorem May3 (x : Wnt) (pv : Value) (n : Nat) (r : Int) (w : World) (hk : x.kind ≠ 0 ∧ x.kind ≠ 1 ∧ x.kind ≠ 2) (hp : RdK w pv x.picks) (hpl : x.picks.length ≤ 1000000) (hpb : ∀ y ∈ x.picks, 0 ≤ y.2.1) (hr : 0 ≤ r) (hn : n < 4294967296) :
    Calls Try.prog 62 #[.agg (valW x pv), .int .u64 n, .int .i64 r] w (Yes (x.may r n) w) := by
  have HF : Hid (x.may r n ↔ ∃ y ∈ x.picks, y.1 = n ∧ hasR y.2.1 y.2.2 r) := by show _ ↔ _; unfold Wnt.may; rw [if_neg hk.1, if_neg hk.2.1, if_neg hk.2.2]; simp [hr, hn]
  obtain ⟨kind, lo, hi, i1, i2, o1, o2, b1, b2, ps⟩ := x
  unfold valW
  simp only at *
  have k0 : (kind == 0) = false := by simpa using hk.1
  have k1 : (kind == 1) = false := by simpa using hk.2.1
  have k2 : (kind == 2) = false := by simpa using hk.2.2
  have h0 : ¬ r < 0 := by omega
  have h1 : ¬ (4294967295 : Int) < n := by omega
  have HP := hid hp
  have HPB := hid hpb
  obtain ⟨ao, cap, rfl⟩ := hp.shape
  clear hk hp hpb
  go_enter Try.func62, Try.ntmps62
  go_wp2_with fail
  have hn1 : New w (w.alloc (.cells #[.int .i64 kind, .int .u64 lo, .int .u64 hi, .int .i64 i1, .int .i64 i2, .int .i64 o1, .int .i64 o2, .int .i64 b1, .int .i64 b2, .slice ao ps.length cap] 47)) := (Upd.refl _ _).alloc _
  have c9 : (w.alloc (.cells #[.int .i64 kind, .int .u64 lo, .int .u64 hi, .int .i64 i1, .int .i64 i2, .int .i64 o1, .int .i64 o2, .int .i64 b1, .int .i64 b2, .slice ao ps.length cap] 47)).cell? ⟨w.heap.size, 9, none⟩ = some (.slice ao ps.length cap) := by simp
  generalize w.alloc (.cells #[.int .i64 kind, .int .u64 lo, .int .u64 hi, .int .i64 i1, .int .i64 i2, .int .i64 o1, .int .i64 o2, .int .i64 b1, .int .i64 b2, .slice ao ps.length cap] 47) = w1 at *
  have HP1 := hid (HP.out.new hn1)
  have C9 := hid c9
  have HN1 := hid hn1
  clear hn1 c9
  go_loopw [7] (fun a wr => ∃ i : Nat, a = .int .i64 i ∧ i ≤ ps.length ∧ New w1 wr ∧ ∀ j (_ : j < i) (hj : j < ps.length), ¬ (ps[j].1 = n ∧ hasR ps[j].2.1 ps[j].2.2 r)) (fun a _ => ps.length - (intOf a).toNat)
  case atStart => exact ⟨0, rfl, Nat.zero_le _, Upd.refl _ _, fun j h => absurd h (Nat.not_lt_zero _)⟩
  case round =>
    obtain ⟨i, rfl, hi1, hw, hno⟩ := hrel
    have HW := hid hw
    have HNO := hid hno
    have c9 := hw.cell C9.out (fun h => h)
    clear hw hno
    by_cases hlt : i < ps.length
    · obtain ⟨_, _, e, _, _, hcell⟩ := HP1.out
      obtain ⟨bl, of, rfl, hcl⟩ := hcell (by intro h; subst h; simp at hlt)
      cases e
      have d0 := HW.out.cell (hcl i hlt).1 (fun h => h)
      have d1 := HW.out.cell (hcl i hlt).2.1 (fun h => h)
      have d2 := HW.out.cell (hcl i hlt).2.2 (fun h => h)
      have hpb := HPB.out ps[i] (List.getElem_mem _)
      have HI := hid (show ps[i] = ps[i] from rfl)
      have HNX : Hid (¬ (ps[i].1 = n ∧ hasR ps[i].2.1 ps[i].2.2 r) → ∀ j (_ : j < i + 1) (hj : j < ps.length), ¬ (ps[j].1 = n ∧ hasR ps[j].2.1 ps[j].2.2 r)) := by
        intro h j h1 h2
        rcases Nat.lt_or_ge j i with h3 | h3
        · exact HNO.out j h3 h2
        · have : j = i := by omega
          subst this
          exact h
      have HYES : Hid ((ps[i].1 = n ∧ hasR ps[i].2.1 ps[i].2.2 r) → ∃ y ∈ ps, y.1 = n ∧ hasR y.2.1 y.2.2 r) := fun h => ⟨ps[i], List.getElem_mem _, h⟩
      have HH := hid (fun w => rHasR_any ps[i].2.1 ps[i].2.2 r w hpb)
      obtain ⟨V, hV⟩ : ∃ V, ps[i].1 = V := ⟨_, rfl⟩
      obtain ⟨y1, hy1⟩ : ∃ y, ps[i].2.1 = y := ⟨_, rfl⟩
      obtain ⟨y2, hy2⟩ : ∃ y, ps[i].2.2 = y := ⟨_, rfl⟩
      rw [hV] at d0 HNX HYES
      rw [hy1] at d1 HNX HYES HH
      rw [hy2] at d2 HNX HYES HH
      clear hV hy1 hy2 hcl hcell hpb HI
      by_cases hv : V = n
      · have hvb : ((V : Int) == (n : Int)) = true := by rw [beq_iff_eq]; omega
        have HV := hid hv
        clear hv
        go_wp2_with fail
        refine (HH.out _).mono ?_
        rintro e w3 ⟨b, rfl, hb, hn3⟩
        have HB := hid hb
        have HN3 := hid (New.trans HW.out hn3)
        clear hb hn3
        cases b with
        | true =>
          go_wp2_with fail
          go_ret
          exact ⟨true, rfl, by rw [HF.out]; simp only [true_iff]; exact HYES.out ⟨HV.out, HB.out.1 (by first | rfl | trivial)⟩, New.trans HN1.out HN3.out⟩
        | false =>
          go_wp2_with fail
          go_roundw
          case rel => exact ⟨i + 1, by go_num, by omega, HN3.out, HNX.out (fun h => by have := HB.out.2 h.2; simp at this)⟩
          case measure => simp [intOf]; omega
      · have hvb : ((V : Int) == (n : Int)) = false := by rw [beq_eq_false_iff_ne]; omega
        have HV := hid hv
        clear hv
        go_wp2_with fail
        go_roundw
        case rel => exact ⟨i + 1, by go_num, by omega, HW.out, HNX.out (fun h => HV.out h.1)⟩
        case measure => simp [intOf]; omega
    · go_wp2_with fail
      go_ret
      refine ⟨false, rfl, ?_, New.trans HN1.out HW.out⟩
      rw [HF.out]
      simp only [Bool.false_eq_true, false_iff]
      rintro ⟨y, hy, hh⟩
      obtain ⟨j, hj, rfl⟩ := List.mem_iff_getElem.mp hy
      exact HNO.out j (by omega) hj hh

/-- may a number stand? whatever the want -/
theorem May_any (x : Wnt) (pv : Value) (n : Nat) (r : Int) (w : World) (hf : x.Fine) (hp : RdK w pv x.picks) (hpl : x.picks.length ≤ 1000000) (hpb : ∀ y ∈ x.picks, 0 ≤ y.2.1) (hr1 : r ≤ 1099511627776) :
    Calls Try.prog 62 #[.agg (valW x pv), .int .u64 n, .int .i64 r] w (Yes (x.may r n) w) := by
  by_cases h0 : r < 0 ∨ 4294967296 ≤ n
  · exact May_out x pv n r w h0
  · by_cases k0 : x.kind = 0
    · exact May0 x pv n r w k0 hf (by omega) (by omega)
    · by_cases k1 : x.kind = 1
      · exact May1 x pv n r w k1 hf (by omega) (by omega)
      · by_cases k2 : x.kind = 2
        · exact May2 x pv n r w k2 (by omega) hr1 (by omega)
        · exact May3 x pv n r w ⟨k0, k1, k2⟩ hp hpl hpb (by omega) (by omega)
end Go.Proofs.Ytkfohickmdkplaa
