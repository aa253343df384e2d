/-
  The walks of ops: the document's answers.
-/
import Derived.Test.YtbllpajibhiobaaDoorJ2
import Derived.Test.YtbllpajibhiobaaDoorJ1
import Derived.Test.YtbllpajibhiobaaDoorChecked
import Derived.Test.YtbllpajibhiobaaDoorJ0
import Derived.Deep.RegionHeld3
import Derived.Deep.DeepCutAuto
namespace Go.Proofs.YtbllpajibhiobaaDoor
open Go.RowKit Go.Proofs.Own
set_option maxRecDepth 100000
set_option maxHeartbeats 4000000

theorem cellList (w : World) (vs : List Int) (t : TypeId) (i : Nat) (h : i < vs.length) : (w.alloc (.cells (vs.map fun n => Value.int .i64 n).toArray t)).cell? ⟨w.heap.size, i, none⟩ = some (.int .i64 vs[i]) := by
  rw [cell_of_row _ w.heap.size i _ t (0, 0) (heap_alloc_new w _)]
  simp [h]

def rplainV (c : Int) : Int :=
  if c = 0 ∨ c = 1 ∨ c = 5 ∨ c = 11 ∨ c = 15 ∨ c = 26 ∨ c = 27 ∨ c = 209 then 0
  else if c = 2 ∨ c = 3 ∨ c = 4 then 1
  else if c = 12 ∨ c = 13 ∨ c = 16 ∨ c = 210 then 2
  else if c = 17 then 3
  else if c = 14 then 4
  else if c = 63 ∨ c = 64 then 6
  else if c = 65 ∨ c = 66 ∨ c = 67 ∨ c = 68 then c - 56
  else if c = 208 then 17
  else if c = 28 then 18
  else if 32 ≤ c ∧ c ≤ 38 then 2
  else if 40 ≤ c ∧ c ≤ 62 then 5
  else if 69 ≤ c ∧ c ≤ 196 then 0
  else -1
def rmiscV (c : Int) : Int :=
  if 0 ≤ c ∧ c ≤ 7 then 0
  else if c = 8 then 8
  else if c = 9 ∨ c = 13 ∨ c = 15 ∨ c = 16 ∨ c = 17 then 2
  else if c = 10 then 7
  else if c = 11 then 6
  else if c = 12 ∨ c = 14 then 3
  else -1
def IntP (s : Int) (w : World) (e : Ending) (w' : World) : Prop := e = .returned (.int .i64 s) ∧ w = w'

def laneT : List Int := [16, 16, 16, 8, 8, 8, 4, 4, 2, 2, 4, 4, 2, 2]
def rvectorV (c : Int) : Int × Int :=
  if missP c then (-1, 0)
  else if c = 92 ∨ c = 93 then (5, 0)
  else if c = 12 then (13, 0)
  else if c = 13 then (14, 0)
  else if c ≤ 11 then (5, 0)
  else if 21 ≤ c ∧ c ≤ 34 then (15, laneT.getD (c - 21).toNat 0)
  else if 84 ≤ c ∧ c ≤ 91 then (16, [16, 8, 4, 2].getD ((c - 84) % 4).toNat 0)
  else (0, 0)
def VecP (r : Int × Int) (w : World) (e : Ending) (w' : World) : Prop := e = .returned (.tuple #[.int .i64 r.1, .int .i64 r.2]) ∧ New w w'



end Go.Proofs.YtbllpajibhiobaaDoor

namespace Go.Proofs.YtbllpajibhiobaaDoor
open Go.RowKit Go.Proofs.Own
set_option maxRecDepth 100000
set_option maxHeartbeats 4000000

def restV (c : Int) : Int × Int := if c = 92 ∨ c = 93 then (5, 0) else if c = 12 then (13, 0) else if c = 13 then (14, 0) else if c ≤ 11 then (5, 0) else (0, 0)
theorem rest_eq (c : Int) (hm : ¬ missP c) (h1 : ¬ (21 ≤ c ∧ c ≤ 34)) (h2 : ¬ (84 ≤ c ∧ c ≤ 91)) : rvectorV c = restV c := by
  unfold rvectorV restV
  rw [if_neg hm, if_neg h1, if_neg h2]
end Go.Proofs.YtbllpajibhiobaaDoor

namespace Go.Proofs.YtbllpajibhiobaaDoor
open Go.RowKit Go.Proofs.Own
set_option maxRecDepth 100000
set_option maxHeartbeats 4000000

def shapeV (p c : Int) : Int × Int :=
  if 255 < c then (-1, 0) else if p = 0 then (rplainV c, 0) else if p = 252 then (rmiscV c, 0) else if p = 253 then rvectorV c else (-1, 0)

def Agree (f : Int × Int × Bool) (r : Int × Int) : Prop := f.2.2 = decide (0 ≤ r.1) ∧ (if f.2.2 = true then f.1 = r.1 ∧ f.2.1 = r.2 else f.1 = 0 ∧ f.2.1 = 0)
instance (f : Int × Int × Bool) (r : Int × Int) : Decidable (Agree f r) := by unfold Agree; infer_instance
theorem agree_low : ∀ c : Fin 256, Agree (findV 0 c.val) (shapeV 0 c.val) ∧ Agree (findV 252 c.val) (shapeV 252 c.val) ∧ Agree (findV 253 c.val) (shapeV 253 c.val) := by decide +kernel
theorem find_shape (p c : Int) (c0 : 0 ≤ c) : Agree (findV p c) (shapeV p c) := by
  by_cases h : 255 < c
  · have e : shapeV p c = (-1, 0) := if_pos h
    have e1 : plainV c = -1 := by unfold plainV; repeat (first | rw [if_neg (by omega)])
    have e2 : miscV c = -1 := by unfold miscV; repeat (first | rw [if_neg (by omega)])
    have e3 : vectorV c = (-1, 0) := by
      unfold vectorV
      rw [if_neg (by omega), if_neg (by omega), if_neg (by omega), if_neg (fun h => by rcases h with h | h | ⟨h, _⟩ <;> omega)]
    have e4 : al p c = (0, false) := by unfold al; repeat (first | rw [if_neg (by omega)])
    have e5 : findV p c = (0, 0, false) := by
      unfold findV rowOr alV
      rw [e1, e2, e3, e4]
      simp
    rw [e, e5]
    decide
  · obtain ⟨k, rfl⟩ : ∃ k : Nat, c = k := ⟨c.toNat, by omega⟩
    have hk := agree_low ⟨k, by omega⟩
    by_cases h1 : p = 0
    · subst h1; exact hk.1
    · by_cases h2 : p = 252
      · subst h2; exact hk.2.1
      · by_cases h3 : p = 253
        · subst h3; exact hk.2.2
        · have e1 : findV p k = (0, 0, false) := by unfold findV; rw [if_neg h1, if_neg h2, if_neg h3]
          have e2 : shapeV p k = (-1, 0) := by unfold shapeV; rw [if_neg h, if_neg h1, if_neg h2, if_neg h3]
          rw [e1, e2]
          decide

def mostT : List Int := [0, 5, 5, 10, 1099511627776, 10, 1, 2, 6, 5, 10, 4, 8, 16, 16, 1, 11, 1, 1099511627776]
def leastT : List Int := [0, 1, 1, 2, 2, 2, 1, 2, 2, 1, 1, 4, 8, 16, 16, 1, 3, 1, 1]
def spanV (s : Int) : Int × Int := if s < 0 ∨ 18 < s then (0, 0) else (leastT.getD s.toNat 0, mostT.getD s.toNat 0)
end Go.Proofs.YtbllpajibhiobaaDoor

namespace Go.Proofs.YtbllpajibhiobaaDoor
open Go.RowKit Go.Proofs.Leb Go.Proofs.Own
set_option maxRecDepth 100000
set_option maxHeartbeats 2000000

def btV (k t i : Int) : Bool := if k = 0 then decide (t = 0 ∧ i = 0) else if k = 1 then decide (i = 0) && valV t else decide (k = 2 ∧ t = 0)
theorem btRight_any (k t i : Int) (w : World) : Calls Tryd.prog 52 #[.agg #[.int .i64 k, .int .u8 t, .int .u32 i]] w (IsNew (btV k t i) w) := by
  by_cases h0 : k = 0
  · subst h0
    rw [show btV 0 t i = decide (t = 0 ∧ i = 0) from rfl]
    go_enter Tryd.func52, Tryd.ntmps52
    go_wp2_with fail
    all_goals go_ret
    all_goals refine ⟨?_, (Upd.refl _ _).alloc _⟩
    all_goals simp_all
  · have e0 : (k == 0) = false := beq_eq_false_iff_ne.mpr h0
    by_cases h1 : k = 1
    · subst h1
      have HV := hid (fun w => vright_any t w)
      rw [show btV 1 t i = (decide (i = 0) && valV t) from rfl]
      generalize valV t = b at *
      clear h0
      by_cases hi : i = 0
      · subst hi
        go_enter Tryd.func52, Tryd.ntmps52
        go_wp2_with fail
        refine (HV.out _).mono ?_
        rintro e w' ⟨rfl, rfl⟩
        go_wp2_with fail
        go_ret
        exact ⟨rfl, (Upd.refl _ _).alloc _⟩
      · have ei : (i == 0) = false := beq_eq_false_iff_ne.mpr hi
        rw [show decide (i = 0) = false from decide_eq_false hi, Bool.false_and]
        clear hi
        go_enter Tryd.func52, Tryd.ntmps52
        go_wp2_with fail
        go_ret
        exact ⟨rfl, (Upd.refl _ _).alloc _⟩
    · have e1 : (k == 1) = false := beq_eq_false_iff_ne.mpr h1
      rw [show btV k t i = decide (k = 2 ∧ t = 0) by unfold btV; rw [if_neg h0, if_neg h1]]
      by_cases h2 : k = 2
      · subst h2
        by_cases ht : t = 0
        · subst ht
          go_enter Tryd.func52, Tryd.ntmps52
          go_wp2_with fail
          go_ret
          exact ⟨rfl, (Upd.refl _ _).alloc _⟩
        · have ei : (t == 0) = false := beq_eq_false_iff_ne.mpr ht
          rw [show decide ((2 : Int) = 2 ∧ t = 0) = false from decide_eq_false (fun h => ht h.2)]
          clear ht
          go_enter Tryd.func52, Tryd.ntmps52
          go_wp2_with fail
          go_ret
          exact ⟨rfl, (Upd.refl _ _).alloc _⟩
      · have e2 : (k == 2) = false := beq_eq_false_iff_ne.mpr h2
        rw [show decide (k = 2 ∧ t = 0) = false from decide_eq_false (fun h => h2 h.1)]
        clear h0 h1 h2
        go_enter Tryd.func52, Tryd.ntmps52
        go_wp2_with fail
        go_ret
        exact ⟨rfl, (Upd.refl _ _).alloc _⟩

def btB (k : Int) (t i : Nat) : List UInt8 := if k = 1 then [UInt8.ofNat t] else if k = 2 then encS i 0 else [64]
theorem btPut_any (k : Int) (t i : Nat) (v : Value) (bs : List UInt8) (w : World) (ht : t < 256) (hi : i < 4294967296) (hb : Bytes w v bs) (h1 : bs.length ≤ 100000) :
    Calls Tryd.prog 60 #[.agg #[.int .i64 k, .int .u8 t, .int .u32 i], v] w (Post w v (bs ++ btB k t i)) := by
  have hN := (Upd.refl (fun _ => False) w).alloc (.cells #[.int .i64 k, .int .u8 t, .int .u32 i] 89)
  have HB := hid (hb.new hN)
  have HN := hid hN
  clear hb hN
  by_cases e1 : k = 1
  · subst e1
    rw [show btB 1 t i = [UInt8.ofNat t] from rfl]
    go_enter Tryd.func60, Tryd.ntmps60
    go_wp2_with (at_builtin; refine hold ?_)
    refine appB (.tmp 9) (.tmp 12) (UInt8.ofNat t) HB.out (by rw [u8_of _ ht]) (by omega) rfl rfl rfl (by rw [World.size_alloc]; rfl) ?_
    intro v' w1 hb1 ha1
    have HB1 := hid hb1
    have HA1 := hid (Adds.ahead HN.out ha1)
    clear hb1 ha1
    go_wp2_with fail
    go_ret
    exact ⟨_, rfl, HB1.out, HA1.out⟩
  · have b1 : (k == 1) = false := beq_eq_false_iff_ne.mpr e1
    by_cases e2 : k = 2
    · subst e2
      rw [show btB 2 t i = encS i 0 from rfl]
      have HP := hid (putS_any v bs i _ (by omega) (by omega) (by omega) HB.out)
      clear e1 b1
      go_enter Tryd.func60, Tryd.ntmps60
      go_wp2_with fail
      refine HP.out.mono ?_
      rintro e w1 ⟨v', rfl, hb1, ha1⟩
      have HB1 := hid hb1
      have HA1 := hid (Adds.ahead HN.out ha1)
      clear hb1 ha1
      go_wp2_with fail
      go_ret
      exact ⟨_, rfl, HB1.out, HA1.out⟩
    · have b2 : (k == 2) = false := beq_eq_false_iff_ne.mpr e2
      rw [show btB k t i = [64] by unfold btB; rw [if_neg e1, if_neg e2]]
      clear e1 e2
      go_enter Tryd.func60, Tryd.ntmps60
      go_wp2_with (at_builtin; refine hold ?_)
      refine appB (.tmp 21) (.tmp 22) 64 HB.out rfl (by omega) rfl rfl rfl (by rw [World.size_alloc]; rfl) ?_
      intro v' w1 hb1 ha1
      have HB1 := hid hb1
      have HA1 := hid (Adds.ahead HN.out ha1)
      clear hb1 ha1
      go_wp2_with fail
      go_ret
      exact ⟨_, rfl, HB1.out, HA1.out⟩

/-- a row of types that the call owns -/
def VBytes (w : World) (v : Value) (bs : List UInt8) : Prop := w.ownsRow 0 47 1 v bs.length (bs.map cb)
theorem infoV : (Tryd.prog.info? 47).map (fun i => (i.zero, i.size, i.bytes)) = some (some (.int .u8 0), 1, 1) := by kernel_rfl
theorem VBytes.rd {w : World} {v : Value} {bs : List UInt8} (h : VBytes w v bs) : Rd w v bs := by
  obtain ⟨h1, h2⟩ := h
  rcases h2 with ⟨rfl, hn⟩ | ⟨g, cap, cur, rfl, _, hg, hn, hm, hs, ht⟩
  · have : bs = [] := List.eq_nil_of_length_eq_zero hn
    subst this
    exact Rd.nil w
  · refine ⟨_, cap, rfl, hn, (fun h => by cases h), fun _ => ⟨g, 0, rfl, fun i hi => ?_⟩⟩
    have hown : w.ownsRow 0 47 1 (.slice (some ⟨g, 0, none⟩) bs.length cap) bs.length (bs.map cb) := ⟨h1, .inr ⟨g, cap, cur, rfl, Nat.zero_le _, hg, hn, hm, hs, ht⟩⟩
    have := hown.cells (g := g) rfl i (cb bs[i]) (by simp [hi])
    rwa [Addr.add_lit] at this
theorem VBytes.one {w : World} {v : Value} {bs : List UInt8} (x : UInt8) (hw : w.ownsRow 0 47 1 v (bs.length + 1) (bs.map cb ++ [.int .u8 x.toNat])) : VBytes w v (bs ++ [x]) := by
  unfold VBytes
  rw [List.length_append, List.map_append]
  exact hw
/-- append of one type, at a goal that is held -/
theorem appV {ops : Array Oper} {rest : List Oper} {o : Oper} {a : Act} {Q : Exit → Act → World → Prop} {w : World} (s x : Operand) (u : UInt8) {v : Value} {d : List UInt8}
    (hb : VBytes w v d) (hl : d.length ≤ 1000000000) (hgd : o.guard = none) (ho : o.op = .call { callee := .builtin .append, args := #[s, x], argTypes := #[91, 91] })
    (hs : a.eval s = v) (hx : a.eval x = .slice (some ⟨w.heap.size, 0, none⟩) 1 1)
    (h : ∀ v' w', VBytes w' v' (d ++ [u]) → Adds w w' v v' → wpList Tryd.prog ops Q rest (a.put o.dst v') w') :
    Hold (wpList Tryd.prog ops Q (o :: rest) a (w.alloc (.cells #[.int .u8 u.toNat] 47))) :=
  held_append1 91 47 1 (.int .u8 0) infoV Tryd.underlying91 rfl s x hgd ho 0 v _ _ hs hb (.int .u8 u.toNat) hx rfl (by unfold maxLen; omega) (by omega) (Nat.zero_le _)
    fun v' w' h1 h2 => h v' w' (VBytes.one u h1) h2

theorem lawVals_any (s : ByteArray) (w : World) (hs : s.size ≤ 100000) :
    Calls Tryd.prog 39 #[.string s] w fun e w' => ∃ v', e = .returned v' ∧ Rd w' v' (lb s) ∧ New w w' ∧ Fresh w v' ∧ (∀ k, v'.ownBlock = some k → k < w'.heap.size) := by
  go_enter Tryd.func39, Tryd.ntmps39
  go_wp2_with fail
  go_loopw [3, 4] (fun b c wr => ∃ i : Nat, c = .int .i64 i ∧ i ≤ s.size ∧ VBytes wr b ((lb s).take i) ∧ New w wr ∧ Fresh w b) (fun _ c _ => s.size - (intOf c).toNat)
  case atStart => exact ⟨0, rfl, by omega, World.ownsRow_nil w 0 _ 1, Upd.refl _ _, fun k hk => by cases hk⟩
  case round =>
    obtain ⟨i, rfl, hi1, hb, hn, hf⟩ := hrel
    have HN := hid hn
    have HF := hid hf
    clear hn hf
    by_cases hi : i < s.size
    · have hg := lb_get s i hi
      obtain ⟨x, hx⟩ : ∃ x, s[i] = x := ⟨_, rfl⟩
      rw [hx] at hg
      have hx2 : s[i].toNat = x.toNat := by rw [hx]
      have HG := hid hg
      have hlen : ((lb s).take i).length ≤ 100000 := by simp [lb_len]; omega
      clear hg hx
      go_wp2_with (at_builtin; refine hold ?_)
      refine appV (.tmp 11) (.tmp 15) x hb (by omega) rfl rfl rfl rfl ?_
      intro v' w1 hb1 ha1
      have hn1 := Upd.newAdds HN.out HF.out ha1
      have hf1 := Fresh.adds HF.out HN.out.size ha1
      clear ha1 hb
      go_wp2_with fail
      go_roundw
      case rel =>
        refine ⟨i + 1, by go_num, by omega, ?_, hn1, hf1⟩
        rw [List.take_add_one, HG.out]
        exact hb1
      case measure => simp [intOf]; omega
    · have e : i = s.size := by omega
      subst e
      rw [← lb_len, List.take_length] at hb
      obtain ⟨ab, cb', rfl⟩ := hb.rd.shape
      have HB := hid hb.rd
      have HT := hid (fun k (hk : (Value.slice ab (lb s).length cb').ownBlock = some k) => (World.ownsRow.lt hb k hk).2)
      clear hb
      go_wp2_with fail
      go_ret
      exact ⟨_, rfl, HB.out, HN.out, HF.out, HT.out⟩
end Go.Proofs.YtbllpajibhiobaaDoor

namespace Go.Proofs.YtbllpajibhiobaaDoor
open Go.RowKit Go.Proofs.Leb Go.Proofs.Own
set_option maxRecDepth 100000
set_option maxHeartbeats 4000000

/-- an instruction, without its memory -/
structure Ins where
  p : Int
  c : Int
  k : Int
  t : Int
  i : Int
  x : Int
  y : Int
  li : List Nat
  n : Int
  raw : ByteArray
  lane : Int
  ty : ByteArray
def rI (m : Ins) (l : Value) : Value := .agg #[.int .u8 m.p, .int .u32 m.c, .int .i64 m.k, .int .u8 m.t, .int .u32 m.i, .int .u32 m.x, .int .u32 m.y, l, .int .i64 m.n, .string m.raw, .int .u8 m.lane, .string m.ty]
def pI (m : Ins) (l u : Value) : Value := .agg #[.int .u8 m.p, .int .u32 m.c, .int .i64 m.k, .int .u8 m.t, .int .u32 m.i, .int .u32 m.x, .int .u32 m.y, l, .int .i64 m.n, .string m.raw, .int .u8 m.lane, u]
def SameP (q : Prop) (w : World) (e : Ending) (w' : World) : Prop := ∃ b, e = .returned (.bool b) ∧ (b = true ↔ q) ∧ New w w'
theorem lb_inj {a b : ByteArray} (h : lb a = lb b) : a = b := by
  unfold lb at h
  exact ByteArray.ext (Array.toList_inj.mp h)

theorem tl_inj {a b : ByteArray} (h : a.toList = b.toList) : a = b := by
  rw [ByteArray.toList_eq, ByteArray.toList_eq] at h
  exact lb_inj h
theorem box1 (w : World) (cs : Array Value) (t : TypeId) (i : Nat) : (w.alloc (.cells cs t)).cell? ⟨w.heap.size, i, none⟩ = cs[i]? := by
  rw [cell_of_row _ w.heap.size i _ t (0, 0) (hp_new rfl)]
theorem box21 (w : World) (cs : Array Value) (t : TypeId) (o : Obj) (i : Nat) : ((w.alloc (.cells cs t)).alloc o).cell? ⟨w.heap.size, i, none⟩ = cs[i]? := by
  rw [cell_of_row _ w.heap.size i _ t (0, 0) (hp_old (by simp) (hp_new rfl))]
theorem box22 (w : World) (cs : Array Value) (t : TypeId) (o : Obj) (i : Nat) : ((w.alloc o).alloc (.cells cs t)).cell? ⟨w.heap.size + 1, i, none⟩ = cs[i]? := by
  rw [cell_of_row _ (w.heap.size + 1) i _ t (0, 0) (hp_new (by simp))]

theorem hp1 {w w' : World} {g : Nat} {o : Obj} (h : w.heap[g]? = some o) (hn : New w w') : w'.heap[g]? = some o :=
  (hn.block g (Array.getElem?_eq_some_iff.1 h).1 (fun h => h)).trans h
theorem cellAt {w : World} {g : Nat} {cs : Array Value} {t : TypeId} (h : w.heap[g]? = some (.cells cs t)) (i : Nat) {v : Value} (hv : cs[i]? = some v) : w.cell? ⟨g, i, none⟩ = some v := by
  rw [cell_of_row _ g i _ t (0, 0) h]; exact hv

theorem pSame_any (a b : Ins) (la lb' ua ub : Value) (w : World) (h1 : RdM .u32 w la a.li) (h2 : RdM .u32 w lb' b.li) (h3 : Rd w ua (lb a.ty)) (h4 : Rd w ub (lb b.ty))
    (s1 : a.li.length ≤ 1000000) (s2 : b.li.length ≤ 1000000) (s3 : a.ty.size ≤ 1000000) (s4 : b.ty.size ≤ 1000000) :
    Calls Tryd.prog 30 #[pI a la ua, pI b lb' ub] w (SameP (a = b) w) := by
  have hl3 := lb_len a.ty
  have hl4 := lb_len b.ty
  have HE := hid (fun w' (hn : New w w') => eqN_any la lb' a.li b.li w' (h1.new hn) (h2.new hn) (by omega) (by omega))
  have HV := hid (fun w' (hn : New w w') => eqV_any ua ub (lb a.ty) (lb b.ty) w' (h3.new hn) (h4.new hn) (by omega) (by omega))
  obtain ⟨a1, c1, rfl⟩ := h1.shape
  obtain ⟨a2, c2, rfl⟩ := h2.shape
  obtain ⟨a3, c3, rfl⟩ := h3.shape
  obtain ⟨a4, c4, rfl⟩ := h4.shape
  clear h1 h2 h3 h4 s1 s2 s3 s4 hl3 hl4
  have HN := hid (fun o o' => ((Upd.refl (fun _ => False) w).alloc o).alloc o')
  obtain ⟨p, c, k, t, i, x, y, li, n, raw, lane, ty⟩ := a
  obtain ⟨p', c', k', t', i', x', y', li', n', raw', lane', ty'⟩ := b
  unfold pI
  simp only at *
  go_enter Tryd.func30, Tryd.ntmps30
  go_wp2_with fail
  all_goals first
    | (go_ret
       refine ⟨false, rfl, ⟨(fun h => by cases h), (fun h => ?_)⟩, HN.out _ _⟩
       first | (injection h; contradiction) | (exfalso; simp_all))
    | skip
  refine (HE.out _ (HN.out _ _)).mono ?_
  rintro e w1 ⟨rfl, hn1⟩
  have hn2 := New.trans (HN.out _ _) hn1
  have z0 : w1.cell? ⟨w.heap.size, 11, none⟩ = some (.slice a3 (lb ty).length c3) := hn1.cell (by rw [box21]; rfl) (fun h => h)
  have z1 : w1.cell? ⟨w.heap.size + 1, 11, none⟩ = some (.slice a4 (lb ty').length c4) := hn1.cell (by rw [box22]; rfl) (fun h => h)
  have HN1 := hid hn2
  clear hn1 hn2
  by_cases hli : li = li'
  · rw [decide_eq_true hli]
    have HL := hid hli
    clear hli
    go_wp2_with fail
    refine (HV.out _ HN1.out).mono ?_
    rintro e w2 ⟨rfl, hn3⟩
    have HN2 := hid (New.trans HN1.out hn3)
    clear hn3 z0 z1
    go_wp2_with fail
    go_ret
    refine ⟨_, rfl, ?_, HN2.out⟩
    have hl := HL.out
    subst hl
    rw [decide_eq_true_iff]
    constructor
    · intro h
      have h1 := lb_inj h
      have h2 := tl_inj ‹raw.toList = raw'.toList›
      subst h1 h2
      first | rfl | simp_all
    · intro h
      injection h
      simp_all
  · rw [decide_eq_false hli]
    have HL := hid hli
    clear hli z0 z1
    go_wp2_with fail
    go_ret
    refine ⟨_, rfl, ⟨(fun h => by cases h), (fun h => ?_)⟩, HN1.out⟩
    injection h
    exact absurd ‹li = li'› HL.out

theorem same_end {p c k t i x y n lane : Int} {li : List Nat} {raw raw' ty ty' : ByteArray} (h : raw.toList = raw'.toList) :
    (ty.toList == ty'.toList) = true ↔ (⟨p, c, k, t, i, x, y, li, n, raw, lane, ty⟩ : Ins) = ⟨p, c, k, t, i, x, y, li, n, raw', lane, ty'⟩ := by
  have h2 := tl_inj h
  subst h2
  constructor
  · intro h
    have := tl_inj (eq_of_beq h)
    subst this
    rfl
  · intro h
    injection h with _ _ _ _ _ _ _ _ _ _ _ h
    subst h
    exact beq_self_eq_true _
theorem ite_end {p c k t i x y n lane p' c' k' t' i' x' y' n' lane' : Int} {li li' : List Nat} {raw raw' ty ty' : ByteArray} :
    (⟨p, c, k, t, i, x, y, li, n, raw, lane, ty⟩ : Ins) = ⟨p', c', k', t', i', x', y', li', n', raw', lane', ty'⟩ ↔
    p = p' ∧ c = c' ∧ k = k' ∧ t = t' ∧ i = i' ∧ x = x' ∧ y = y' ∧ li = li' ∧ n = n' ∧ raw = raw' ∧ lane = lane' ∧ ty = ty' := by
  rw [Ins.mk.injEq]
end Go.Proofs.YtbllpajibhiobaaDoor

namespace Go.Proofs.YtbllpajibhiobaaDoor
open Go.RowKit Go.Proofs.Own Go.Proofs.Leb
set_option maxRecDepth 100000
set_option maxHeartbeats 4000000

def SpanP (r : Int × Int) (w : World) (e : Ending) (w' : World) : Prop := e = .returned (.agg #[.int .i64 r.1, .int .i64 r.2]) ∧ New w w'

theorem spanV_at : ∀ k : Fin 19, spanV k.val = (leastT.getD k.val 0, mostT.getD k.val 0) := by decide
theorem spanV_0 : spanV 0 = (0, 0) := by unfold spanV; rw [if_neg (by omega)]; rfl
theorem spanV_1 : spanV 1 = (1, 5) := by unfold spanV; rw [if_neg (by omega)]; rfl
theorem spanV_2 : spanV 2 = (1, 5) := by unfold spanV; rw [if_neg (by omega)]; rfl
theorem spanV_3 : spanV 3 = (2, 10) := by unfold spanV; rw [if_neg (by omega)]; rfl
theorem spanV_4 : spanV 4 = (2, 1099511627776) := by unfold spanV; rw [if_neg (by omega)]; rfl
theorem spanV_5 : spanV 5 = (2, 10) := by unfold spanV; rw [if_neg (by omega)]; rfl
theorem spanV_6 : spanV 6 = (1, 1) := by unfold spanV; rw [if_neg (by omega)]; rfl
theorem spanV_7 : spanV 7 = (2, 2) := by unfold spanV; rw [if_neg (by omega)]; rfl
theorem spanV_8 : spanV 8 = (2, 6) := by unfold spanV; rw [if_neg (by omega)]; rfl
theorem spanV_9 : spanV 9 = (1, 5) := by unfold spanV; rw [if_neg (by omega)]; rfl
theorem spanV_10 : spanV 10 = (1, 10) := by unfold spanV; rw [if_neg (by omega)]; rfl
theorem spanV_11 : spanV 11 = (4, 4) := by unfold spanV; rw [if_neg (by omega)]; rfl
theorem spanV_12 : spanV 12 = (8, 8) := by unfold spanV; rw [if_neg (by omega)]; rfl
theorem spanV_13 : spanV 13 = (16, 16) := by unfold spanV; rw [if_neg (by omega)]; rfl
theorem spanV_14 : spanV 14 = (16, 16) := by unfold spanV; rw [if_neg (by omega)]; rfl
theorem spanV_15 : spanV 15 = (1, 1) := by unfold spanV; rw [if_neg (by omega)]; rfl
theorem spanV_16 : spanV 16 = (3, 11) := by unfold spanV; rw [if_neg (by omega)]; rfl
theorem spanV_17 : spanV 17 = (1, 1) := by unfold spanV; rw [if_neg (by omega)]; rfl
theorem spanV_18 : spanV 18 = (1, 1099511627776) := by unfold spanV; rw [if_neg (by omega)]; rfl
theorem infoSpan_any (s l : Int) (w : World) : Calls Tryd.prog 53 #[.agg #[.int .i64 s, .int .i64 l]] w (SpanP (spanV s) w) := by
  obtain ⟨r, hr⟩ : ∃ r, spanV s = r := ⟨_, rfl⟩
  rw [hr]
  have HS := hid hr
  clear hr
  go_enter Tryd.func53, Tryd.ntmps53
  go_wp2_with fail
  all_goals
    refine ret_agg rfl Tryd.underlying127 rfl (w.heap.size + 1) _ _ ?_ rfl rfl (hp_new (by simp)) ?_
    · kernel_rfl
    · have hv : Hid (r = spanV s) := HS.out.symm
      clear HS
      simp only [beq_iff_eq, beq_eq_false_iff_ne, ne_eq] at *
      first
        | (have hs : s = 1 := by assumption
           rw [hv.out, hs, spanV_1]
           exact ⟨rfl, ((Upd.refl _ _).alloc _).alloc _⟩)
        | (have hs : s = 2 := by assumption
           rw [hv.out, hs, spanV_2]
           exact ⟨rfl, ((Upd.refl _ _).alloc _).alloc _⟩)
        | (have hs : s = 3 := by assumption
           rw [hv.out, hs, spanV_3]
           exact ⟨rfl, ((Upd.refl _ _).alloc _).alloc _⟩)
        | (have hs : s = 4 := by assumption
           rw [hv.out, hs, spanV_4]
           exact ⟨rfl, ((Upd.refl _ _).alloc _).alloc _⟩)
        | (have hs : s = 5 := by assumption
           rw [hv.out, hs, spanV_5]
           exact ⟨rfl, ((Upd.refl _ _).alloc _).alloc _⟩)
        | (have hs : s = 6 := by assumption
           rw [hv.out, hs, spanV_6]
           exact ⟨rfl, ((Upd.refl _ _).alloc _).alloc _⟩)
        | (have hs : s = 7 := by assumption
           rw [hv.out, hs, spanV_7]
           exact ⟨rfl, ((Upd.refl _ _).alloc _).alloc _⟩)
        | (have hs : s = 8 := by assumption
           rw [hv.out, hs, spanV_8]
           exact ⟨rfl, ((Upd.refl _ _).alloc _).alloc _⟩)
        | (have hs : s = 9 := by assumption
           rw [hv.out, hs, spanV_9]
           exact ⟨rfl, ((Upd.refl _ _).alloc _).alloc _⟩)
        | (have hs : s = 10 := by assumption
           rw [hv.out, hs, spanV_10]
           exact ⟨rfl, ((Upd.refl _ _).alloc _).alloc _⟩)
        | (have hs : s = 11 := by assumption
           rw [hv.out, hs, spanV_11]
           exact ⟨rfl, ((Upd.refl _ _).alloc _).alloc _⟩)
        | (have hs : s = 12 := by assumption
           rw [hv.out, hs, spanV_12]
           exact ⟨rfl, ((Upd.refl _ _).alloc _).alloc _⟩)
        | (have hs : s = 13 := by assumption
           rw [hv.out, hs, spanV_13]
           exact ⟨rfl, ((Upd.refl _ _).alloc _).alloc _⟩)
        | (have hs : s = 14 := by assumption
           rw [hv.out, hs, spanV_14]
           exact ⟨rfl, ((Upd.refl _ _).alloc _).alloc _⟩)
        | (have hs : s = 15 := by assumption
           rw [hv.out, hs, spanV_15]
           exact ⟨rfl, ((Upd.refl _ _).alloc _).alloc _⟩)
        | (have hs : s = 16 := by assumption
           rw [hv.out, hs, spanV_16]
           exact ⟨rfl, ((Upd.refl _ _).alloc _).alloc _⟩)
        | (have hs : s = 17 := by assumption
           rw [hv.out, hs, spanV_17]
           exact ⟨rfl, ((Upd.refl _ _).alloc _).alloc _⟩)
        | (have hs : s = 18 := by assumption
           rw [hv.out, hs, spanV_18]
           exact ⟨rfl, ((Upd.refl _ _).alloc _).alloc _⟩)
        | (refine ⟨?_, ((Upd.refl _ _).alloc _).alloc _⟩
           have e : spanV s = (0, 0) := by
             by_cases h0 : s = 0
             · rw [h0, spanV_0]
             · exact if_pos (by omega)
           rw [hv.out, e])
end Go.Proofs.YtbllpajibhiobaaDoor

namespace Go.Proofs.Span

/-- is there a number in a range, below 2^bits, with digits that are known? -/
def fit (lo hi low shift left bits : Nat) : Prop := ∃ v, lo ≤ v ∧ v ≤ hi ∧ v < 2 ^ bits ∧ v % 2 ^ shift = low ∧ v / 2 ^ shift < 128 ^ left

/-- the same by one look -/
def look (lo hi low shift left bits : Nat) : Bool :=
  decide (lo ≤ min hi (2 ^ bits - 1)) && decide (low ≤ min hi (2 ^ bits - 1)) &&
    (decide ((if low < lo then (lo - low - 1) / 2 ^ shift + 1 else 0) < 2 ^ (7 * left)) &&
     decide (low + (if low < lo then (lo - low - 1) / 2 ^ shift + 1 else 0) * 2 ^ shift ≤ min hi (2 ^ bits - 1)))

theorem look_fit (lo hi low shift left bits : Nat) (hlow : low < 2 ^ shift) : look lo hi low shift left bits = true ↔ fit lo hi low shift left bits := by
  have hS : 0 < 2 ^ shift := Nat.pow_pos (by decide)
  have hB : 0 < 2 ^ bits := Nat.pow_pos (by decide)
  have hp : (128 : Nat) ^ left = 2 ^ (7 * left) := by rw [Nat.pow_mul]
  unfold look fit
  rw [hp]
  generalize 2 ^ shift = S at *
  generalize 2 ^ bits = B at *
  generalize 2 ^ (7 * left) = L
  simp only [Bool.and_eq_true, decide_eq_true_eq]
  constructor
  · rintro ⟨⟨h1, h2⟩, h3, h4⟩
    split at h3
    · rename_i hlt
      rw [if_pos hlt] at h4
      refine ⟨low + ((lo - low - 1) / S + 1) * S, ?_, by omega, by omega, ?_, ?_⟩
      · have := Nat.div_add_mod (lo - low - 1) S
        have hm := Nat.mod_lt (lo - low - 1) hS
        rw [Nat.add_mul, Nat.mul_comm ((lo - low - 1) / S) S]
        omega
      · rw [Nat.add_mul_mod_self_right]; exact Nat.mod_eq_of_lt hlow
      · rw [Nat.add_mul_div_right _ _ hS, Nat.div_eq_of_lt hlow]; omega
    · rename_i hlt
      rw [if_neg hlt] at h4
      refine ⟨low, by omega, by omega, by omega, Nat.mod_eq_of_lt hlow, ?_⟩
      rw [Nat.div_eq_of_lt hlow]; omega
  · rintro ⟨v, h1, h2, h3, h4, h5⟩
    have hv := Nat.div_add_mod v S
    rw [h4] at hv
    have hle : low ≤ v := by rw [← hv]; exact Nat.le_add_left _ _
    refine ⟨⟨by omega, by omega⟩, ?_⟩
    split
    · rename_i hlt
      have hq : (lo - low - 1) / S < v / S := by
        rw [Nat.div_lt_iff_lt_mul hS, Nat.mul_comm]
        omega
      have hm : ((lo - low - 1) / S + 1) * S ≤ v / S * S := Nat.mul_le_mul_right _ hq
      rw [Nat.mul_comm (v / S) S] at hm
      exact ⟨Nat.lt_of_le_of_lt hq h5, by omega⟩
    · exact ⟨Nat.lt_of_le_of_lt (Nat.zero_le _) h5, by omega⟩

/-! ### counts and sizes, over the integers; 1099511627776 stands for no bound -/
def right (mn mx : Int) : Prop := 0 ≤ mn ∧ mn ≤ mx ∧ mn ≤ 274877906944 ∧ (mx ≤ 274877906944 ∨ 1099511627776 ≤ mx)
def item (mn mx : Int) : Prop := right mn mx ∧ 1 ≤ mn ∧ mn ≤ 31 ∧ (mx ≤ 31 ∨ 1099511627776 ≤ mx)
def has (mn mx n : Int) : Bool := decide (mn ≤ n) && (decide (1099511627776 ≤ mx) || decide (n ≤ mx))
/-- the sum of two greatest counts -/
def most (a b : Int) : Int := if 1099511627776 ≤ a ∨ 1099511627776 ≤ b ∨ 1099511627776 < a + b then 1099511627776 else a + b
/-- a product, 2^40 at most -/
def mul (n m : Int) : Int := if 1099511627776 < n * m then 1099511627776 else n * m
def between (low high : Int) : Int × Int := if min high 4294967295 < max low 0 then (1, 0) else (max low 0, min high 4294967295)
def least (iMax bMax r : Int) : Int := if bMax < 1099511627776 ∧ bMax < r then (if 1099511627776 ≤ iMax then 1 else (r - bMax - 1) / iMax + 1) else 0
def counts (iMin iMax bMin bMax r : Int) : Int × Int :=
  if r < bMin then (1, 0) else between (least iMax bMax r) ((r - bMin) / iMin)
/-- may r bytes be made of n items, and what is behind? -/
def makes (iMin iMax bMin bMax r n : Int) : Bool :=
  let mn := if n ≤ 0 then 0 else mul n iMin
  let mx := if n ≤ 0 then 0 else if 1099511627776 ≤ iMax then 1099511627776 else mul n iMax
  has (mn + bMin) (most mx bMax) r && (decide (r < 1099511627776) || decide (1099511627776 ≤ most mx bMax))
def sizes (oMin oMax bMin bMax r : Int) : Int × Int :=
  if 1099511627776 ≤ r then (if 1099511627776 ≤ bMax then between oMin oMax else (1, 0))
  else between (if 1099511627776 ≤ bMax then oMin else max oMin (r - bMax)) (min oMax (r - bMin))
def parts (oMin oMax bMin bMax r v : Int) : Bool :=
  if has oMin oMax v = false ∨ (r < 1099511627776 ∧ r < v) then false
  else if 1099511627776 ≤ r then decide (1099511627776 ≤ bMax) else has bMin bMax (r - v)

theorem between_in (low high n : Int) (h0 : 0 ≤ n) (h1 : n ≤ 4294967295) : ((between low high).1 ≤ n ∧ n ≤ (between low high).2) ↔ low ≤ n ∧ n ≤ high := by
  unfold between; split <;> simp only <;> omega
theorem between_bounds (low high : Int) (hl : low ≤ 4294967296) : 0 ≤ (between low high).1 ∧ (between low high).1 ≤ 4294967296 ∧ 0 ≤ (between low high).2 ∧ (between low high).2 ≤ 4294967295 ∧
    ((between low high).2 < (between low high).1 → (between low high) = (1, 0)) := by
  unfold between; split
  · simp
  · simp only; refine ⟨by omega, by omega, by omega, by omega, by omega⟩

theorem sizes_parts {oMin oMax bMin bMax r v : Int} (ho : right oMin oMax) (hb : right bMin bMax) (h0 : 0 ≤ r) (h1 : r ≤ 1099511627776) (v0 : 0 ≤ v) (v1 : v ≤ 4294967295) :
    parts oMin oMax bMin bMax r v = true ↔ (sizes oMin oMax bMin bMax r).1 ≤ v ∧ v ≤ (sizes oMin oMax bMin bMax r).2 := by
  obtain ⟨o1, o2, o3, o4⟩ := ho
  obtain ⟨b1, b2, b3, b4⟩ := hb
  have B := fun low high => between_in low high v v0 v1
  have hone : ¬ ((1 : Int) ≤ v ∧ v ≤ 0) := by omega
  have hP : parts oMin oMax bMin bMax r v = true ↔ (oMin ≤ v ∧ (1099511627776 ≤ oMax ∨ v ≤ oMax)) ∧ ¬ (r < 1099511627776 ∧ r < v) ∧
      (if 1099511627776 ≤ r then 1099511627776 ≤ bMax else bMin ≤ r - v ∧ (1099511627776 ≤ bMax ∨ r - v ≤ bMax)) := by
    unfold parts has
    by_cases hc : (decide (oMin ≤ v) && (decide (1099511627776 ≤ oMax) || decide (v ≤ oMax))) = false ∨ r < 1099511627776 ∧ r < v
    · rw [if_pos hc]
      simp only [Bool.and_eq_false_iff, decide_eq_false_iff_not, Bool.or_eq_false_iff] at hc
      constructor
      · intro h; cases h
      · rintro ⟨h1, h2, _⟩; omega
    · rw [if_neg hc]
      simp only [Bool.and_eq_false_iff, decide_eq_false_iff_not, Bool.or_eq_false_iff] at hc
      split
      · simp only [decide_eq_true_eq]; constructor
        · intro h; exact ⟨by omega, by omega, h⟩
        · intro h; exact h.2.2
      · simp only [Bool.and_eq_true, Bool.or_eq_true, decide_eq_true_eq]; constructor
        · intro h; exact ⟨by omega, by omega, h⟩
        · intro h; exact h.2.2
  rw [hP]
  unfold sizes
  by_cases hr : 1099511627776 ≤ r
  · rw [if_pos hr, if_pos hr]
    by_cases hm : 1099511627776 ≤ bMax
    · rw [if_pos hm, B]; omega
    · rw [if_neg hm]; simp only; omega
  · rw [if_neg hr, if_neg hr, B]
    by_cases hm : 1099511627776 ≤ bMax
    · rw [if_pos hm]; omega
    · rw [if_neg hm]; omega

theorem counts_makes {iMin iMax bMin bMax r n : Int} (hi : item iMin iMax) (hb : right bMin bMax) (h0 : 0 ≤ r) (h1 : r ≤ 1099511627776) (n0 : 0 ≤ n) (n1 : n ≤ 4294967295) :
    makes iMin iMax bMin bMax r n = true ↔ (counts iMin iMax bMin bMax r).1 ≤ n ∧ n ≤ (counts iMin iMax bMin bMax r).2 := by
  obtain ⟨⟨i1, i2, i3, i4⟩, i5, i6, i7⟩ := hi
  obtain ⟨b1, b2, b3, b4⟩ := hb
  have hn : 0 ≤ n * iMin := Int.mul_nonneg n0 (by omega)
  have hn' : n * iMin ≤ n * 31 := Int.mul_le_mul_of_nonneg_left i6 n0
  have hq : ∀ d : Int, n ≤ d / iMin ↔ n * iMin ≤ d := fun d => Int.le_ediv_iff_mul_le (by omega)
  have B := fun low high => between_in low high n n0 n1
  have hone : ¬ ((1 : Int) ≤ n ∧ n ≤ 0) := by omega
  -- what is asked, in plain words
  have hM : makes iMin iMax bMin bMax r n = true ↔ n * iMin + bMin ≤ r ∧ (1099511627776 ≤ most (if n ≤ 0 then 0 else if 1099511627776 ≤ iMax then 1099511627776 else mul n iMax) bMax ∨
      (r ≤ most (if n ≤ 0 then 0 else if 1099511627776 ≤ iMax then 1099511627776 else mul n iMax) bMax ∧ r < 1099511627776)) := by
    unfold makes has
    have e : (if n ≤ 0 then 0 else mul n iMin) = n * iMin := by
      unfold mul
      split
      · have : n = 0 := by omega
        subst this; simp
      · rw [if_neg (by omega)]
    simp only [e]
    generalize most (if n ≤ 0 then 0 else if 1099511627776 ≤ iMax then 1099511627776 else mul n iMax) bMax = M
    simp only [Bool.and_eq_true, Bool.or_eq_true, decide_eq_true_eq]
    omega
  rw [hM]
  unfold counts
  by_cases hr : r < bMin
  · rw [if_pos hr]; simp only; omega
  · rw [if_neg hr, B, hq]
    unfold least most mul
    by_cases hE : 1099511627776 ≤ iMax
    · simp only [hE, if_true]
      by_cases hz : n ≤ 0
      · have hz' : n = 0 := by omega
        subst hz'
        simp only [Int.zero_mul, Int.le_refl, if_true] at *
        split <;> split <;> omega
      · simp only [hz, if_false]
        split <;> split <;> omega
    · have hle : iMax ≤ 31 := by omega
      have hm0 : 0 ≤ n * iMax := Int.mul_nonneg n0 (by omega)
      have hm1 : n * iMax ≤ n * 31 := Int.mul_le_mul_of_nonneg_left hle n0
      have hm2 : n * iMin ≤ n * iMax := Int.mul_le_mul_of_nonneg_left i2 n0
      have hu : (r - bMax - 1) / iMax + 1 ≤ n ↔ r - bMax ≤ n * iMax := by
        have := Int.ediv_lt_iff_lt_mul (a := r - bMax - 1) (b := n) (c := iMax) (by omega)
        omega
      simp only [hE, if_false]
      by_cases hz : n ≤ 0
      · have hz' : n = 0 := by omega
        subst hz'
        simp only [Int.zero_mul, Int.le_refl, if_true] at *
        split <;> split <;> omega
      · simp only [hz, if_false]
        rw [if_neg (by omega : ¬ (1099511627776 < n * iMax))]
        split <;> split <;> omega
end Go.Proofs.Span

namespace Go.Proofs.YtbllpajibhiobaaDoor
open Go.RowKit Go.Proofs.Own Go.Proofs.Span
set_option maxRecDepth 100000
set_option maxHeartbeats 2000000

theorem endless_any (mn mx : Int) (w : World) :
    Calls Tryd.prog 69 #[.agg #[.int .i64 mn, .int .i64 mx]] w fun e w' => e = .returned (.bool (decide (1099511627776 ≤ mx))) ∧ w.alloc (.cells #[.int .i64 mn, .int .i64 mx] 127) = w' := by
  go_enter Tryd.func69, Tryd.ntmps69
  go_wp2_with fail
  go_ret
  exact ⟨rfl, rfl⟩

theorem has_any (mn mx n : Int) (w : World) :
    Calls Tryd.prog 54 #[.agg #[.int .i64 mn, .int .i64 mx], .int .i64 n] w fun e w' => e = .returned (.bool (has mn mx n)) ∧ New w w' := by
  have HE := hid (endless_any mn mx)
  have HV : Hid (has mn mx n = (decide (mn ≤ n) && (decide (1099511627776 ≤ mx) || decide (n ≤ mx)))) := by show _ = _; rfl
  by_cases h1 : mn ≤ n
  · by_cases h2 : (1099511627776 : Int) ≤ mx
    · have HW : Hid ((decide (mn ≤ n) && (decide (1099511627776 ≤ mx) || decide (n ≤ mx))) = true) := by show _ = _; simp [h1, h2]
      go_enter Tryd.func54, Tryd.ntmps54
      go_wp2_with (refine (HE.out _).mono ?_; rintro e w' ⟨rfl, rfl⟩)
      go_ret
      rw [HV.out, HW.out]
      exact ⟨rfl, ((Upd.refl _ _).alloc _).alloc _⟩
    · have HW : Hid ((decide (mn ≤ n) && (decide (1099511627776 ≤ mx) || decide (n ≤ mx))) = decide (n ≤ mx)) := by show _ = _; simp [h1, h2]
      have H2 := hid h2
      go_enter Tryd.func54, Tryd.ntmps54
      go_wp2_with (refine (HE.out _).mono ?_; rintro e w' ⟨rfl, rfl⟩)
      go_ret
      refine ⟨?_, ((Upd.refl _ _).alloc _).alloc _⟩
      rw [HV.out, HW.out]
      show Ending.returned (Value.bool (decide (1099511627776 ≤ mx) || decide (n ≤ mx))) = _
      rw [decide_eq_false (by have := H2.out; omega)]
      rfl
  · have HW : Hid ((decide (mn ≤ n) && (decide (1099511627776 ≤ mx) || decide (n ≤ mx))) = false) := by show _ = _; simp [h1]
    go_enter Tryd.func54, Tryd.ntmps54
    go_wp2_with fail
    go_ret
    rw [HV.out, HW.out]
    exact ⟨rfl, (Upd.refl _ _).alloc _⟩

end Go.Proofs.YtbllpajibhiobaaDoor
