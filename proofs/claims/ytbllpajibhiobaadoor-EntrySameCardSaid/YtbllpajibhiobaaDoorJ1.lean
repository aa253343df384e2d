/-
  Lists put: of types, of numbers; a text's bytes as types; is a number one of some.
-/
import Derived.Test.YtbllpajibhiobaaDoorJ0
import Derived.Test.YtbllpajibhiobaaDoorChecked
import Derived.Deep.RegionHeld3
import Derived.Deep.DeepCutAuto
import Derived.WalkMore
import Derived.Maps.Keyed
import Derived.DeepKeys5
import Derived.MapViews
import Derived.Lib.SmallJoins
namespace Go.Proofs.YtbllpajibhiobaaDoor
open Go.RowKit Go.Proofs.Leb Go.Proofs.Own
set_option maxRecDepth 100000
set_option maxHeartbeats 2000000

/-- what is read lies elsewhere than what is added to -/
def Apart (v l : Value) : Prop := ∀ k, v.ownBlock = some k → l.ownBlock ≠ some k
theorem Apart.adds {w w' : World} {v v' l : Value} (h : Apart v l) (ha : Adds w w' v v') (hl : ∀ k, l.ownBlock = some k → k < w.heap.size) : Apart v' l := by
  intro k hk hc
  rcases ha.at' with e | ⟨j, e, hj⟩
  · exact h k (by rw [← e]; exact hk) hc
  · rw [e] at hk; cases hk
    have := hl _ hc
    omega
theorem Rd.adds {w w' : World} {v v' l : Value} {ds : List UInt8} (h : Rd w l ds) (ha : Adds w w' v v') (hp : Apart v l) : Rd w' l ds := h.upd ha.upd (fun k hk h => hp k h hk)
theorem RdM.adds {k : IntKind} {w w' : World} {v v' l : Value} {ds : List Nat} (h : RdM k w l ds) (ha : Adds w w' v v') (hp : Apart v l) : RdM k w' l ds := h.upd ha.upd (fun k hk h => hp k h hk)

theorem putVals_any (v l : Value) (bs ds : List UInt8) (w : World) (hb : Bytes w v bs) (hl : Rd w l ds) (hp : Apart v l) (h1 : bs.length ≤ 100000) (h2 : ds.length ≤ 100000) :
    Calls Tryd.prog 63 #[v, l] w (Post w v (bs ++ (encU ds.length 0 ++ ds))) := by
  have HP := hid (putU_any v bs ds.length w (by omega) (by omega) hb)
  have h5 := encU_five (v := ds.length) (by omega)
  obtain ⟨a, c, rfl⟩ := hl.shape
  have HL := hid hl
  have HA := hid hp
  clear hl hp hb
  go_enter Tryd.func63, Tryd.ntmps63
  go_wp2_with fail
  refine HP.out.mono ?_
  rintro e w0 ⟨v0, rfl, hb0, ha0⟩
  go_wp2_with fail
  go_loopw [0, 14] (fun b c wr => ∃ i : Nat, c = .int .i64 i ∧ i ≤ ds.length ∧ Bytes wr b (bs ++ (encU ds.length 0 ++ ds.take i)) ∧ Adds w wr v b) (fun _ c _ => ds.length - (intOf c).toNat)
  case atStart => exact ⟨0, rfl, by omega, by simpa using hb0, ha0⟩
  case round =>
    obtain ⟨i, rfl, hi1, hbr, har⟩ := hrel
    clear hb0 ha0
    have hrd := HL.out.adds har HA.out
    by_cases hi : i < ds.length
    · obtain ⟨a', c', e, hcap, hn, hcell⟩ := hrd
      cases e
      obtain ⟨b, o, rfl, hce⟩ := hcell (by intro h; subst h; simp at hi)
      have hc1 := hce i hi
      have hg1 : ds[i]? = some ds[i] := List.getElem?_eq_getElem hi
      generalize hxe : ds[i] = x at *
      have HG := hid hg1
      clear hg1 hxe hce hcell
      unfold cb at hc1
      have hlen : (bs ++ (encU ds.length 0 ++ ds.take i)).length ≤ 1000000 := by simp; omega
      go_wp2_with (at_builtin; refine hold ?_)
      refine appB (.tmp 18) (.tmp 20) x hbr rfl (by omega) rfl rfl rfl rfl ?_
      intro v' w1 hb1 ha1
      have ha2 := har.trans ha1
      clear ha1 har hbr
      go_wp2_with fail
      go_roundw
      case rel =>
        refine ⟨i + 1, by go_num, by omega, ?_, ha2⟩
        rw [List.take_add_one, HG.out]
        simpa using hb1
      case measure => simp [intOf]; omega
    · have e : i = ds.length := by omega
      subst e
      rw [List.take_length] at hbr
      clear hrd
      obtain ⟨ab, cb', rfl⟩ := hbr.rd.shape
      have HB := hid hbr
      have HR := hid har
      clear hbr har
      go_wp2_with fail
      go_ret
      exact ⟨_, rfl, HB.out, HR.out⟩

theorem putNums_any (v l : Value) (bs : List UInt8) (ns : List Nat) (w : World) (hb : Bytes w v bs) (hl : RdM .u32 w l ns) (hp : Apart v l) (h1 : bs.length ≤ 100000) (h2 : ns.length ≤ 100000) (hn : ∀ n ∈ ns, n < 4294967296) :
    Calls Tryd.prog 61 #[v, l] w (Post w v (bs ++ ns.flatMap (encU · 0))) := by
  have HP := hid (fun v bs n w => putU_any v bs n w)
  obtain ⟨a, c, rfl⟩ := hl.shape
  have HL := hid hl
  have HA := hid hp
  have HN := hid hn
  obtain ⟨av, cv, hv⟩ := hb.rd.shape
  have HB := hid hb
  clear hl hp hb hn
  subst hv
  go_enter Tryd.func61, Tryd.ntmps61
  go_wp2_with fail
  go_loopw [0, 9] (fun b c wr => ∃ i : Nat, c = .int .i64 i ∧ i ≤ ns.length ∧ Bytes wr b (bs ++ (ns.take i).flatMap (encU · 0)) ∧ (bs ++ (ns.take i).flatMap (encU · 0)).length ≤ bs.length + 5 * i ∧ Adds w wr (.slice av bs.length cv) b) (fun _ c _ => ns.length - (intOf c).toNat)
  case atStart => exact ⟨0, rfl, by omega, by simpa using HB.out, by simp, Adds.refl _ _⟩
  case round =>
    obtain ⟨i, rfl, hi1, hbr, hlr, har⟩ := hrel
    have hrd := HL.out.adds har HA.out
    by_cases hi : i < ns.length
    · obtain ⟨a', c', e, hcap, hn, hcell⟩ := hrd
      cases e
      obtain ⟨b, o, rfl, hce⟩ := hcell (by intro h; subst h; simp at hi)
      have hc1 := hce i hi
      have hg1 : ns[i]? = some ns[i] := List.getElem?_eq_getElem hi
      have hx := HN.out _ (List.getElem_mem hi)
      generalize hxe : ns[i] = x at *
      have HG := hid hg1
      clear hg1 hxe hce hcell
      have h5 := encU_five hx
      generalize hpre : bs ++ (ns.take i).flatMap (encU · 0) = pre at *
      have HE := hid hpre
      have HC := hid (HP.out _ _ x _ (by omega) (by omega) hbr)
      have HR := hid har
      clear hpre hbr har
      go_wp2_with fail
      refine HC.out.mono ?_
      rintro e w1 ⟨v', rfl, hb1, ha1⟩
      have ha2 := HR.out.trans ha1
      clear ha1
      go_wp2_with fail
      go_roundw
      case rel =>
        have e2 : bs ++ (ns.take (i + 1)).flatMap (encU · 0) = pre ++ encU x 0 := by
          rw [List.take_add_one, HG.out, ← HE.out]
          simp
        refine ⟨i + 1, by go_num, by omega, ?_, ?_, ha2⟩
        · rw [e2]; exact hb1
        · rw [e2, List.length_append]; omega
      case measure => simp [intOf]; omega
    · have e : i = ns.length := by omega
      subst e
      rw [List.take_length] at hbr
      clear hrd hlr
      obtain ⟨ab, cb', rfl⟩ := hbr.rd.shape
      have HB := hid hbr
      have HR := hid har
      clear hbr har
      go_wp2_with fail
      go_ret
      exact ⟨_, rfl, HB.out, HR.out⟩

end Go.Proofs.YtbllpajibhiobaaDoor

namespace Go.Proofs.YtbllpajibhiobaaDoor
open Go.RowKit Go.Proofs.Own
set_option maxRecDepth 100000
set_option maxHeartbeats 2000000

def InPost (c lo hi : Int) (w : World) (e : Ending) (w' : World) : Prop := e = .returned (.bool (decide (lo ≤ c ∧ c ≤ hi))) ∧ w = w'
theorem in_post (c lo hi : Int) (w : World) : Calls Tryd.prog 73 #[.int .u32 c, .int .u32 lo, .int .u32 hi] w (InPost c lo hi w) := by
  by_cases h1 : lo ≤ c
  · by_cases h2 : c ≤ hi
    · go_enter Tryd.func73, Tryd.ntmps73
      go_wp2_with fail
      go_ret
      exact ⟨by rw [decide_eq_true ⟨h1, h2⟩]; rfl, rfl⟩
    · have h3 : decide (c ≤ hi) = false := decide_eq_false h2
      go_enter Tryd.func73, Tryd.ntmps73
      go_wp2_with fail
      go_ret
      exact ⟨by rw [decide_eq_false (by omega : ¬ (lo ≤ c ∧ c ≤ hi))]; rfl, rfl⟩
  · have h3 : decide (lo ≤ c) = false := decide_eq_false h1
    go_enter Tryd.func73, Tryd.ntmps73
    go_wp2_with fail
    go_ret
    exact ⟨by rw [decide_eq_false (by omega : ¬ (lo ≤ c ∧ c ≤ hi))]; rfl, rfl⟩
theorem in_any (c lo hi : Int) (w : World) :
    Calls Tryd.prog 73 #[.int .u32 c, .int .u32 lo, .int .u32 hi] w fun e w' => e = .returned (.bool (decide (lo ≤ c ∧ c ≤ hi))) ∧ w = w' := in_post c lo hi w

/-- an op without a prefix: its row; -1: none -/
def plainV (c : Int) : Int :=
  if (69 ≤ c ∧ c ≤ 196) ∨ (0 ≤ c ∧ c ≤ 1) ∨ c = 5 ∨ c = 11 ∨ c = 15 ∨ (26 ≤ c ∧ c ≤ 27) ∨ c = 209 then 0
  else if (32 ≤ c ∧ c ≤ 38) ∨ (12 ≤ c ∧ c ≤ 13) ∨ c = 16 ∨ c = 210 then 2
  else if 65 ≤ c ∧ c ≤ 68 then 9 + (c - 65)
  else if 40 ≤ c ∧ c ≤ 62 then 5
  else if 2 ≤ c ∧ c ≤ 4 then 1
  else if c = 17 then 3
  else if 63 ≤ c ∧ c ≤ 64 then 6
  else -1

def RowPost (s l : Int) (w : World) (e : Ending) (w' : World) : Prop := e = .returned (.agg #[.int .i64 s, .int .i64 l]) ∧ New w w'

theorem rowEq {a b s l : Int} (h1 : a = s) (h2 : b = l) : Ending.returned (.agg #[.int .i64 a, .int .i64 b]) = .returned (.agg #[.int .i64 s, .int .i64 l]) := by rw [h1, h2]

theorem plainRow_any (c : Int) (w : World) (c0 : 0 ≤ c) (c1 : c < 4294967296) : Calls Tryd.prog 64 #[.int .u32 c] w (RowPost (plainV c) 0 w) := by
  obtain ⟨s, hs⟩ : ∃ s, plainV c = s := ⟨_, rfl⟩
  rw [hs]
  have HS := hid hs
  clear hs
  have HI := hid (in_any c)
  go_enter Tryd.func64, Tryd.ntmps64
  go_wp2_with (go_at_call 73; refine (HI.out _ _ _).mono ?_; rintro e w' ⟨rfl, rfl⟩)
  all_goals
    refine ret_agg rfl Tryd.underlying123 rfl w.heap.size _ _ ?_ rfl rfl (hp_new rfl) ?_
    · kernel_rfl
    · refine ⟨rowEq ?_ rfl, (Upd.refl _ _).alloc _⟩
      rw [← HS.out]
      clear HS HI
      try simp only [beq_iff_eq, beq_eq_false_iff_ne, ne_eq] at *
      unfold plainV
      repeat (first | rw [if_pos (by omega)] | rw [if_neg (by omega)])

/-- the same behind FC -/
def miscV (c : Int) : Int :=
  if 0 ≤ c ∧ c ≤ 7 then 0
  else if c = 9 ∨ c = 13 ∨ (15 ≤ c ∧ c ≤ 17) then 2
  else if c = 12 ∨ c = 14 then 3
  else if c = 11 then 6
  else -1
theorem miscRow_any (c : Int) (w : World) (c0 : 0 ≤ c) (c1 : c < 4294967296) : Calls Tryd.prog 65 #[.int .u32 c] w (RowPost (miscV c) 0 w) := by
  obtain ⟨s, hs⟩ : ∃ s, miscV c = s := ⟨_, rfl⟩
  rw [hs]
  have HS := hid hs
  clear hs
  have HI := hid (in_any c)
  go_enter Tryd.func65, Tryd.ntmps65
  go_wp2_with (go_at_call 73; refine (HI.out _ _ _).mono ?_; rintro e w' ⟨rfl, rfl⟩)
  all_goals
    refine ret_agg rfl Tryd.underlying123 rfl w.heap.size _ _ ?_ rfl rfl (hp_new rfl) ?_
    · kernel_rfl
    · refine ⟨rowEq ?_ rfl, (Upd.refl _ _).alloc _⟩
      rw [← HS.out]
      clear HS HI
      try simp only [beq_iff_eq, beq_eq_false_iff_ne, ne_eq] at *
      unfold miscV
      repeat (first | rw [if_pos (by omega)] | rw [if_neg (by omega)])

def lanesV (c : Int) : Int := if c ≤ 23 then 16 else if c ≤ 26 then 8 else if (27 ≤ c ∧ c ≤ 28) ∨ (31 ≤ c ∧ c ≤ 32) then 4 else 2
def LanesPost (s : Int) (w : World) (e : Ending) (w' : World) : Prop := e = .returned (.int .i64 s) ∧ w = w'
theorem lanes_post (c : Int) (w : World) : Calls Tryd.prog 74 #[.int .u32 c] w (LanesPost (lanesV c) w) := by
  obtain ⟨s, hs⟩ : ∃ s, lanesV c = s := ⟨_, rfl⟩
  rw [hs]
  have HS := hid hs
  clear hs
  have HI := hid (in_any c)
  go_enter Tryd.func74, Tryd.ntmps74
  go_wp2_with (go_at_call 73; refine (HI.out _ _ _).mono ?_; rintro e w' ⟨rfl, rfl⟩)
  all_goals
    go_ret
    refine ⟨?_, rfl⟩
    rw [← HS.out]
    clear HS HI
    unfold lanesV
    repeat (first | rw [if_pos (by omega)] | rw [if_neg (by omega)])
    rfl
theorem lanes_any (c : Int) (w : World) : Calls Tryd.prog 74 #[.int .u32 c] w fun e w' => e = .returned (.int .i64 (lanesV c)) ∧ w = w' := lanes_post c w

def missP (c : Int) : Prop := c = 154 ∨ c = 162 ∨ c = 165 ∨ c = 166 ∨ c = 175 ∨ c = 176 ∨ c = 178 ∨ c = 179 ∨ c = 180 ∨ c = 187 ∨ c = 194 ∨ c = 197 ∨ c = 198 ∨ c = 207 ∨ c = 208 ∨ c = 210 ∨ c = 211 ∨ c = 212 ∨ c = 226 ∨ c = 238
instance (c : Int) : Decidable (missP c) := by unfold missP; infer_instance
def MissPost (b : Bool) (w : World) (e : Ending) (w' : World) : Prop := e = .returned (.bool b) ∧ w = w'
theorem missing_post (c : Int) (w : World) : Calls Tryd.prog 75 #[.int .u32 c] w (MissPost (decide (missP c)) w) := by
  obtain ⟨s, hs⟩ : ∃ s, decide (missP c) = s := ⟨_, rfl⟩
  rw [hs]
  have HS := hid hs
  clear hs
  go_enter Tryd.func75, Tryd.ntmps75
  go_wp2_with fail
  all_goals
    go_ret
    refine ⟨?_, rfl⟩
    rw [← HS.out]
    clear HS
    try simp only [beq_iff_eq, beq_eq_false_iff_ne, ne_eq] at *
    first
      | rw [decide_eq_true (by unfold missP; omega)]; rfl
      | rw [decide_eq_false (by unfold missP; omega)]; rfl
theorem missing_any (c : Int) (w : World) : Calls Tryd.prog 75 #[.int .u32 c] w fun e w' => e = .returned (.bool (decide (missP c))) ∧ w = w' := missing_post c w

def shV (c : Int) : Int := if c % 4 = 0 then 16 else if c % 4 = 1 then 8 else if c % 4 = 2 then 4 else 2
/-- the same behind FD; beside it how many lanes -/
def vectorV (c : Int) : Int × Int :=
  if (0 ≤ c ∧ c ≤ 11) ∨ (92 ≤ c ∧ c ≤ 93) then (5, 0)
  else if 21 ≤ c ∧ c ≤ 34 then (15, lanesV c)
  else if 84 ≤ c ∧ c ≤ 91 then (16, shV c)
  else if (14 ≤ c ∧ c ≤ 20) ∨ (35 ≤ c ∧ c ≤ 83) ∨ ((94 ≤ c ∧ c ≤ 255) ∧ ¬ missP c) then (0, 0)
  else (-1, 0)
theorem sh_eq (c : Int) : (16 : Int) / 2 ^ (c % 4).toNat = shV c := by
  have : c % 4 = 0 ∨ c % 4 = 1 ∨ c % 4 = 2 ∨ c % 4 = 3 := by omega
  unfold shV
  rcases this with h | h | h | h <;> rw [h] <;> rfl
theorem vectorRow_any (c : Int) (w : World) (c0 : 0 ≤ c) (c1 : c < 4294967296) : Calls Tryd.prog 66 #[.int .u32 c] w (RowPost (vectorV c).1 (vectorV c).2 w) := by
  obtain ⟨s, hs⟩ : ∃ s, vectorV c = s := ⟨_, rfl⟩
  rw [hs]
  have HS := hid hs
  clear hs
  have HI := hid (in_any c)
  have HL := hid (lanes_any c)
  have HM := hid (missing_any c)
  go_enter Tryd.func66, Tryd.ntmps66
  go_wp2_with (first | (go_at_call 73; refine (HI.out _ _ _).mono ?_; rintro e w' ⟨rfl, rfl⟩) | (go_at_call 74; refine (HL.out _).mono ?_; rintro e w' ⟨rfl, rfl⟩) | (go_at_call 75; refine (HM.out _).mono ?_; rintro e w' ⟨rfl, rfl⟩))
  all_goals
    refine ret_agg rfl Tryd.underlying123 rfl w.heap.size _ _ ?_ rfl rfl (hp_new rfl) ?_
    · kernel_rfl
    · have hv : Hid (s = vectorV c) := HS.out.symm
      clear HS HI HL HM
      try simp only [Bool.not_eq_true', decide_eq_false_iff_not, Bool.not_eq_false', decide_eq_true_eq] at *
      have hv2 := hv.out
      unfold vectorV at hv2
      repeat (first
        | rw [if_pos (by omega)] at hv2
        | rw [if_neg (by omega)] at hv2
        | rw [if_pos (Or.inr (Or.inr ⟨⟨by omega, by omega⟩, by assumption⟩))] at hv2
        | rw [if_neg (fun h => by rcases h with h | h | ⟨_, h2⟩ <;> first | omega | exact h2 (by assumption))] at hv2)
      rw [hv2]
      exact ⟨rowEq (by first | rfl | exact sh_eq c) (by first | rfl | exact sh_eq c), (Upd.refl _ _).alloc _⟩
end Go.Proofs.YtbllpajibhiobaaDoor

namespace Go.Proofs.YtbllpajibhiobaaDoor
open Go.RowKit Go.Proofs.Own
open Go.Maps (Keyed)
open Go.ChangeMaps (setBlock)
set_option maxRecDepth 100000
set_option maxHeartbeats 2000000

theorem opLaid : laidOutB Tryd.prog = true := by kernel_rfl
theorem opKeyed : Keyed Tryd.prog 87 := Keyed.of_law (deep_law_gate opLaid (of_decide_eq_true (by kernel_rfl)) (of_decide_eq_true (by kernel_rfl)) (by kernel_rfl) (by kernel_rfl))

/-- a key -/
def ky (p c : Int) : Value := .agg #[.int .u8 p, .int .u32 c]
theorem wfu8 {p : Int} (h0 : 0 ≤ p) (h1 : p < 256) : (Lit.int .u8 p).wf = true := by
  have e1 : IntKind.u8.min = 0 := by decide
  have e2 : IntKind.u8.max = 255 := by decide
  simp only [Lit.wf, e1, e2, Bool.and_eq_true, decide_eq_true_eq]
  omega
theorem wfu32 {p : Int} (h0 : 0 ≤ p) (h1 : p < 4294967296) : (Lit.int .u32 p).wf = true := by
  have e1 : IntKind.u32.min = 0 := by decide
  have e2 : IntKind.u32.max = 4294967295 := by decide
  simp only [Lit.wf, e1, e2, Bool.and_eq_true, decide_eq_true_eq]
  omega
theorem ky_lit (w : World) (p c : Int) (p0 : 0 ≤ p) (p1 : p < 256) (c0 : 0 ≤ c) (c1 : c < 4294967296) : ∃ l, keyOf Tryd.prog 87 (ky p c) = some l := by
  have h0 := Go.Joins.field_of_Trod (Go.ChangeShapes.shut_int (enc := fun _ : TypeId × Value => ()) (w := w) (base := 0) (spare := fun _ => true) (held := true) Tryd.underlying5 (wfu8 p0 p1)) rfl
  have h1 := Go.Joins.field_of_Trod (Go.ChangeShapes.shut_int (enc := fun _ : TypeId × Value => ()) (w := w) (base := 0) (spare := fun _ => true) (held := true) Tryd.underlying22 (wfu32 c0 c1)) rfl
  have h2 := Go.Joins.shut_agg2 Tryd.underlying87 (by kernel_rfl) (by kernel_rfl) h0 h1
  exact ⟨_, (keyOf_asKey (by kernel_rfl) (by kernel_rfl) (by
    unfold Value.formed
    rw [Tryd.underlying87]
    exact beq_iff_eq.mpr (by kernel_rfl)) h2).1⟩

/-! ### the entries -/
def tab : List (Int × Int × Int) := [(0, 14, 4), (0, 28, 18), (0, 208, 17), (252, 8, 8), (252, 10, 7), (253, 12, 13), (253, 13, 14)]
def tp (q : Nat) : Int := (tab.getD q (0, 0, 0)).1
def tc (q : Nat) : Int := (tab.getD q (0, 0, 0)).2.1
def tv (q : Nat) : Int := (tab.getD q (0, 0, 0)).2.2
theorem tab_bd : ∀ q : Fin 7, 0 ≤ tp q ∧ tp q < 256 ∧ 0 ≤ tc q ∧ tc q < 4294967296 := by decide
theorem tab_inj : ∀ i j : Fin 7, tp i = tp j → tc i = tc j → i = j := by decide
theorem ky_inj {p c p' c' : Int} (h : ky p c = ky p' c') : p = p' ∧ c = c' := by
  unfold ky at h
  simp at h
  exact h

/-- block g is a map whose entries are those of the table that qs names -/
def MapIn (w : World) (g : Nat) (qs : Nat → Bool) : Prop :=
  ∃ es clock, w.heap[g]? = some (.map es clock) ∧ (∀ e ∈ es.toList, ∃ q, q < 7 ∧ qs q = true ∧ e.key = ky (tp q) (tc q) ∧ e.val = .int .i64 (tv q)) ∧
    ∀ q, q < 7 → qs q = true → ∃ e ∈ es.toList, e.key = ky (tp q) (tc q)
theorem MapIn.new {w w' : World} {g : Nat} {qs : Nat → Bool} (h : MapIn w g qs) (hn : New w w') : MapIn w' g qs := by
  obtain ⟨es, clock, hb, h1, h2⟩ := h
  exact ⟨es, clock, (hn.block g (Array.getElem?_eq_some_iff.1 hb).1 (fun h => h)).trans hb, h1, h2⟩
theorem MapIn.made (w : World) : MapIn (w.alloc (.map #[] 0)) w.heap.size (fun _ => false) :=
  ⟨#[], 0, hp_new rfl, (fun e h => by simp at h), fun q _ h => by cases h⟩
theorem MapIn.congr {w : World} {g : Nat} {p q : Nat → Bool} (h : MapIn w g p) (e : ∀ j, j < 7 → p j = q j) : MapIn w g q := by
  obtain ⟨es, clock, hb, h1, h2⟩ := h
  refine ⟨es, clock, hb, fun x hx => ?_, fun j hj hq => h2 j hj (by rw [e j hj]; exact hq)⟩
  obtain ⟨j, hj, hp, r⟩ := h1 x hx
  exact ⟨j, hj, by rw [← e j hj]; exact hp, r⟩

theorem setBlock_heap {w : World} {g : Nat} {o x : Obj} (hb : w.heap[g]? = some o) : (setBlock w g x).heap[g]? = some x := by
  have := (Array.getElem?_eq_some_iff.1 hb).1
  simp [setBlock, this]
theorem setBlock_upd (w : World) (g : Nat) (x : Obj) : Upd (fun k => k = g) w (setBlock w g x) :=
  ⟨rfl, rfl, rfl, by simp [setBlock], fun k _ hn => by simp [setBlock, Ne.symm hn]⟩

theorem insert_run {w : World} {g : Nat} {qs : Nat → Bool} (h : MapIn w g qs) {q : Nat} (hq : q < 7) (hn : qs q = false) :
    ∃ w', (Instr.mapUpdate 138 (.map (some g)) (ky (tp q) (tc q)) (.int .i64 (tv q))).run Tryd.prog w = .ok () w' ∧ MapIn w' g (fun j => qs j || j == q) ∧ Upd (fun k => k = g) w w' := by
  obtain ⟨es, clock, hb, h1, h2⟩ := h
  have bd := tab_bd ⟨q, hq⟩
  obtain ⟨l, hl⟩ := ky_lit w (tp q) (tc q) bd.1 bd.2.1 bd.2.2.1 bd.2.2.2
  have hkeys : ∀ e ∈ es.toList, ∃ l, keyOf Tryd.prog 87 e.key = some l := fun e he => by
    obtain ⟨j, hj, _, hk, _⟩ := h1 e he
    have bd := tab_bd ⟨j, hj⟩
    rw [hk]
    exact ky_lit w (tp j) (tc j) bd.1 bd.2.1 bd.2.2.1 bd.2.2.2
  rcases opKeyed.find w hl es.toList hkeys with ⟨f1, f2⟩ | ⟨j, e0, _, f2, f3⟩
  · refine ⟨setBlock w g (.map (es.push ⟨ky (tp q) (tc q), .int .i64 (tv q), clock⟩) (clock + 1)), ?_, ⟨_, _, setBlock_heap hb, ?_, ?_⟩, setBlock_upd _ _ _⟩
    · simp [Instr.mapUpdate, run_underlying Tryd.underlying138, MapKept.run_getObj_map hb, opKeyed.check w false hl, f1, MapKept.run_setObj_map _ hb, Result.andThen, setBlock]
    · intro e he
      simp only [Array.toList_push, List.mem_append, List.mem_singleton] at he
      rcases he with he | rfl
      · obtain ⟨j, hj, hs, r⟩ := h1 e he
        exact ⟨j, hj, by show (qs j || j == q) = true; rw [hs]; rfl, r⟩
      · exact ⟨q, hq, by simp, rfl, rfl⟩
    · intro j hj hs
      simp only [Bool.or_eq_true, beq_iff_eq] at hs
      rcases hs with hs | rfl
      · obtain ⟨e, he, hk⟩ := h2 j hj hs
        exact ⟨e, by simp [he], hk⟩
      · exact ⟨⟨ky (tp j) (tc j), .int .i64 (tv j), clock⟩, by simp, rfl⟩
  · obtain ⟨i, hi, hs, hk, _⟩ := h1 e0 (List.mem_of_getElem? f2)
    obtain ⟨e1, e2⟩ := ky_inj (hk.symm.trans f3)
    have : i = q := congrArg Fin.val (tab_inj ⟨i, hi⟩ ⟨q, hq⟩ e1 e2)
    subst this
    rw [hs] at hn
    cases hn

/-! ### in whatever order -/
/-- what has come up when the entries of m are laid -/
def L (m : Nat) : Array Bool := Array.ofFn (n := 17) fun i => if i.val % 2 = 0 ∧ 2 ≤ i.val ∧ i.val ≤ 14 then m.testBit (i.val / 2 - 1) else decide (i.val < 15)
def rest (m : Nat) : List Nat := (List.range 7).filter fun q => !m.testBit q
theorem L_set : ∀ m : Fin 128, ∀ q : Fin 7, m.val.testBit q.val = false → (L m.val).setIfInBounds (2 + 2 * q.val) true = L (m.val ||| 2 ^ q.val) := by decide +kernel
theorem rest_set : ∀ m : Fin 128, ∀ q : Fin 7, m.val.testBit q.val = false → (rest (m.val ||| 2 ^ q.val)).length + 1 = (rest m.val).length ∧ m.val ||| 2 ^ q.val < 128 := by decide +kernel
theorem bit_set : ∀ m : Fin 128, ∀ q : Fin 7, ∀ j : Fin 7, (m.val ||| 2 ^ q.val).testBit j.val = (m.val.testBit j.val || j.val == q.val) := by decide +kernel
theorem rest_nil : ∀ m : Fin 128, (rest m.val).length = 0 → m.val = 127 := by decide +kernel
theorem bits_all : ∀ j : Fin 7, (127 : Nat).testBit j.val = true := by decide

theorem step_insert {P : Program} {ops : Array Oper} {o : Oper} {a : Act} {w w' : World} {K : Act → World → Prop} {Q : Exit → Act → World → Prop} {E : Prop} {t : TypeId} {m x v : Operand} {g : Nat} {key val : Value}
    (hw : Region.wanted o (yielded ops a.tmps) = true) (hop : o.op = Op.insert t m x v) (hd : o.dst = none) (hm : a.eval m = .map (some g)) (hx : a.eval x = key) (hv : a.eval v = val)
    (hrun : (Instr.mapUpdate t (.map (some g)) key val).run P w = .ok () w') (h : K a w') : if Region.wanted o (yielded ops a.tmps) = true then Oper.wp P o a w K Q else E := by
  rw [if_pos hw]
  unfold Oper.wp
  simp [execOp, hop, hm, hx, hv, hrun, Result.andThen, Oper.upon, hd, Act.put]
  exact h

theorem inserts {ops : Array Oper} {Q : Exit → Act → World → Prop} {S : World → Prop} {a : Act} {g : Nat}
    (hop : ∀ q : Fin 7, ∃ o, ops[2 + 2 * q.val]? = some o ∧ o.guard = none ∧ o.dst = none ∧ o.op = Op.insert 138 (.tmp 1) (.tmp (2 + q.val)) (.const (.int .i64 (tv q.val))))
    (hm : a.eval (.tmp 1) = .map (some g)) (hx : ∀ q : Fin 7, a.eval (.tmp (2 + q.val)) = ky (tp q.val) (tc q.val))
    (hA : ∀ m : Fin 128, m.val ≠ 127 → Region.ready .any ops (L m.val) = (rest m.val).map fun q => 2 + 2 * q)
    (hS : ∀ w w', S w → Upd (fun k => k = g) w w' → S w')
    (hQ : ∀ w, MapIn w g (fun _ => true) → S w → wpAnyH Tryd.prog .any ops Q S 2 (L 127) a w) :
    ∀ r m, m < 128 → (rest m).length = r → ∀ w, MapIn w g m.testBit → S w → wpAnyH Tryd.prog .any ops Q S (r + 2) (L m) a w
  | 0, m, hm1, hr, w, hin, hs => by
    obtain rfl : m = 127 := rest_nil ⟨m, hm1⟩ hr
    exact hQ w (hin.congr fun j hj => bits_all ⟨j, hj⟩) hs
  | r + 1, m, hm1, hr, w, hin, hs => by
    have hne : m ≠ 127 := fun e => by
      subst e
      have : (rest 127).length = 0 := by decide
      omega
    have hA1 := hA ⟨m, hm1⟩ hne
    refine wpAnyH_ready (rs := (rest m).map fun q => 2 + 2 * q) hA1 (fun e => ?_) ?_
    · have := congrArg List.length e
      simp at this
      rw [this] at hr
      simp at hr
    · intro i hi
      obtain ⟨q, hq, rfl⟩ := List.mem_map.mp hi
      unfold rest at hq
      simp only [List.mem_filter, List.mem_range, Bool.not_eq_true'] at hq
      obtain ⟨q7, hbit⟩ := hq
      obtain ⟨o, ho, hg, hd, hop1⟩ := hop ⟨q, q7⟩
      obtain ⟨w', hrun, hin', hu⟩ := insert_run hin q7 hbit
      refine wpOp_step ho fun K' hK => ?_
      refine step_insert (by unfold Region.wanted; rw [hg]) hop1 hd hm (hx ⟨q, q7⟩) rfl hrun (hK _ _ ⟨hS _ _ hs hu, ?_⟩)
      rw [L_set ⟨m, hm1⟩ ⟨q, q7⟩ hbit]
      obtain ⟨e1, e2⟩ := rest_set ⟨m, hm1⟩ ⟨q, q7⟩ hbit
      exact inserts hop hm hx hA hS hQ r _ e2 (Nat.add_right_cancel (e1.trans hr)) w' (hin'.congr fun j hj => (bit_set ⟨m, hm1⟩ ⟨q, q7⟩ ⟨j, hj⟩).symm) (hS _ _ hs hu)

/-- what the map answers -/
def al (p c : Int) : Int × Bool :=
  if p = 0 ∧ c = 14 then (4, true) else if p = 0 ∧ c = 28 then (18, true) else if p = 0 ∧ c = 208 then (17, true)
  else if p = 252 ∧ c = 8 then (8, true) else if p = 252 ∧ c = 10 then (7, true) else if p = 253 ∧ c = 12 then (13, true) else if p = 253 ∧ c = 13 then (14, true) else (0, false)
theorem al_tab : ∀ q : Fin 7, al (tp q) (tc q) = (tv q, true) := by decide
theorem al_none {p c : Int} (h : ∀ q : Fin 7, ¬ (tp q = p ∧ tc q = c)) : al p c = (0, false) := by
  have h0 : ¬ ((0 : Int) = p ∧ (14 : Int) = c) := h 0
  have h1 : ¬ ((0 : Int) = p ∧ (28 : Int) = c) := h 1
  have h2 : ¬ ((0 : Int) = p ∧ (208 : Int) = c) := h 2
  have h3 : ¬ ((252 : Int) = p ∧ (8 : Int) = c) := h 3
  have h4 : ¬ ((252 : Int) = p ∧ (10 : Int) = c) := h 4
  have h5 : ¬ ((253 : Int) = p ∧ (12 : Int) = c) := h 5
  have h6 : ¬ ((253 : Int) = p ∧ (13 : Int) = c) := h 6
  unfold al
  repeat (first | rw [if_neg (by omega)])

theorem look_run {w : World} {g : Nat} (h : MapIn w g (fun _ => true)) (p c : Int) (p0 : 0 ≤ p) (p1 : p < 256) (c0 : 0 ≤ c) (c1 : c < 4294967296) :
    (Instr.lookup 138 (.map (some g)) (ky p c) true).run Tryd.prog w = .ok (.tuple #[.int .i64 (al p c).1, .bool (al p c).2]) w := by
  obtain ⟨es, clock, hb, h1, h2⟩ := h
  obtain ⟨l, hl⟩ := ky_lit w p c p0 p1 c0 c1
  have hkeys : ∀ e ∈ es.toList, ∃ l, keyOf Tryd.prog 87 e.key = some l := fun e he => by
    obtain ⟨j, hj, _, hk, _⟩ := h1 e he
    have bd := tab_bd ⟨j, hj⟩
    rw [hk]
    exact ky_lit w (tp j) (tc j) bd.1 bd.2.1 bd.2.2.1 bd.2.2.2
  have hz : (zeroValue 3).run Tryd.prog w = .ok (.int .i64 0) w := by kernel_rfl
  rcases opKeyed.find w hl es.toList hkeys with ⟨f1, f2⟩ | ⟨j, e0, f1, f2, f3⟩
  · have : al p c = (0, false) := al_none fun q ⟨e1, e2⟩ => by
      obtain ⟨e, he, hk⟩ := h2 q.val q.isLt rfl
      exact f2 e he (by rw [hk, e1, e2])
    rw [this]
    simp [Instr.lookup, run_underlying Tryd.underlying138, MapKept.run_getObj_map hb, opKeyed.check w _ hl, f1, hz, Result.andThen]
  · obtain ⟨i, hi, _, hk, hv⟩ := h1 e0 (List.mem_of_getElem? f2)
    obtain ⟨e1, e2⟩ := ky_inj (hk.symm.trans f3)
    have : al p c = (tv i, true) := by rw [← e1, ← e2]; exact al_tab ⟨i, hi⟩
    rw [this]
    simp [Instr.lookup, run_underlying Tryd.underlying138, MapKept.run_getObj_map hb, opKeyed.check w _ hl, f1, hv, Result.andThen]
end Go.Proofs.YtbllpajibhiobaaDoor
