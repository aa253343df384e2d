/-
  The walks of ops: Put.
-/
import Derived.Test.YtnngibflnnmioaaOpT
import Derived.Test.YtnngibflnnmioaaLebP
import Derived.Test.YtnngibflnnmioaaLit
import Derived.Deep.RegionHeld3
namespace Go.Proofs.Ytnngibflnnmioaa
open Go.RowKit Go.Proofs.Own Go.Proofs.Leb
set_option maxRecDepth 100000
set_option maxHeartbeats 2000000

theorem cb_of (n : Nat) (h : n < 256) : cb (UInt8.ofNat n) = .int .u8 n := by unfold cb; rw [u8_of n h]
def opBytes (p c : Nat) : List UInt8 := if p = 0 then [UInt8.ofNat c] else UInt8.ofNat p :: encU c 0
theorem Put_any (v : Value) (bs : List UInt8) (p c : Nat) (w : World) (hp : p < 256) (hc : c < 4294967296) (hn : bs.length ≤ 1000000) (hown : Bytes w v bs) :
    Calls Try.prog 38 #[.agg #[.int .u8 p, .int .u32 c], v] w (Post w v (bs ++ opBytes p c)) := by
  have hlt := fun k (h : v.ownBlock = some k) => (World.ownsRow.lt hown k h).2
  by_cases h0 : p = 0
  · have e : opBytes p c = [UInt8.ofNat c] := if_pos h0
    rw [e]
    subst h0
    clear e
    obtain ⟨d, hd, hd2⟩ : ∃ d : Nat, (c : Int) % 256 = d ∧ (UInt8.ofNat c).toNat = d := ⟨c % 256, by omega, by simp⟩
    have HD2 := hid hd2
    have HO := hid (hown.new ((Upd.refl (fun _ => False) w).alloc (.cells #[.int .u8 0, .int .u32 c] 28)))
    clear hlt hd2
    go_enter Try.func38, Try.ntmps38
    go_wp2_with (at_builtin; refine hold ?_)
    refine appB (.tmp 8) (.tmp 12) (UInt8.ofNat c) HO.out ?_ (by omega) rfl rfl rfl (by show Value.slice (some ⟨w.heap.size + 1, 0, none⟩) 1 1 = _; rw [World.size_alloc]) ?_
    · rw [HD2.out]
    · intro v' w2 hb2 ha2
      go_wp2_with fail
      go_ret
      exact ⟨v', rfl, hb2, Adds.ahead ((Upd.refl _ _).alloc _) ha2⟩
  · have e : opBytes p c = UInt8.ofNat p :: encU c 0 := if_neg h0
    rw [e]
    clear e
    obtain ⟨w1, hw1⟩ : ∃ w1, w.alloc (.cells #[.int .u8 p, .int .u32 c] 28) = w1 := ⟨_, rfl⟩
    have HN1 : Hid (New w w1) := by show New _ _; rw [← hw1]; exact (Upd.refl _ _).alloc _
    have HB : Hid (Blk w1 w.heap.size (.int .u8 p) (.int .u32 c) 28) := by show Blk _ _ _ _ _; rw [← hw1]; exact Blk.mk
    have HW := hid hw1
    have hb1 : Bytes w1 v bs := hown.new HN1.out
    have HB1 := hid hb1
    have HLT := hid hlt
    have hwc : IntKind.u64.wrap (c : Int) = c := IntWalk.u64_in _ (by omega)
    have e0 : ((p : Int) == 0) = false := beq_eq_false_iff_ne.mpr (by omega)
    clear hw1 hb1 hlt h0
    go_enter Try.func38, Try.ntmps38
    go_wp2_with fail
    rw [HW.out]
    have hn : Upd (fun k => v.ownBlock = some k) w1 w1.drew := (Upd.refl _ _).drew
    obtain ⟨a0, cp, ev⟩ := HB1.out.rd.shape
    subst ev
    have z0 := hid HB.out.c0
    have z1 := hid HB.out.c1
    refine wp_region_noPanic ?_
    refine wp_region_held_drew (S := (Upd (fun k => (Value.slice a0 bs.length cp).ownBlock = some k) w1)) (by kernel_rfl) (by first | exact hn | exact (Upd.refl _ _).drew | exact Upd.drew (by assumption)) (fun hn => ?_)
    refine wpAnyH_take (i := 0) (oi := { dst := some 14, op := Op.move (Operand.tmp 1), type := 39, pos := "op.go:109", after := #[], guard := none }) (v := ?v36x1) rfl (by kernel_rfl) (by kernel_rfl) (by kernel_rfl) (fun _ _ _ h => h) (Or.inl ⟨by rfl, ?y36x1⟩) hn ?r36x1
    case y36x1 => (intro wS hS; (try go_simp); (try with_reducible rfl))
    try simp only [Act.put, List.setIfInBounds_toArray, List.set_cons_zero, List.set_cons_succ]
    refine wpAnyH_take (i := 1) (oi := { dst := some 15, op := Op.fieldAddr 28 (Operand.tmp 2) 0, type := 0, pos := "op.go:109", after := #[], guard := none }) (v := ?v36x2) rfl (by kernel_rfl) (by kernel_rfl) (by kernel_rfl) (fun _ _ _ h => h) (Or.inl ⟨by rfl, ?y36x2⟩) hn ?r36x2
    case y36x2 => (intro wS hS; (try go_simp); (try with_reducible rfl))
    try simp only [Act.put, List.setIfInBounds_toArray, List.set_cons_zero, List.set_cons_succ]
    refine wpAnyH_take (i := 2) (oi := { dst := some 16, op := Op.load 5 (Operand.tmp 15), type := 5, pos := "op.go:109", after := #[{ on := 1, ground := Ground.data }], guard := none }) (v := ?v36x3) rfl (by kernel_rfl) (by kernel_rfl) (by kernel_rfl) (fun _ _ _ h => h) (Or.inl ⟨by rfl, ?y36x3⟩) hn ?r36x3
    case y36x3 => (intro wS hS; have c0 := hS.cell z0.out (fun h => absurd (HLT.out _ h) (Nat.lt_irrefl _)); (try go_simp); (try with_reducible rfl))
    try simp only [Act.put, List.setIfInBounds_toArray, List.set_cons_zero, List.set_cons_succ]
    refine wpAnyH_take (i := 5) (oi := { dst := some 19, op := Op.fieldAddr 28 (Operand.tmp 2) 1, type := 0, pos := "op.go:109", after := #[], guard := none }) (v := ?v36x4) rfl (by kernel_rfl) (by kernel_rfl) (by kernel_rfl) (fun _ _ _ h => h) (Or.inl ⟨by rfl, ?y36x4⟩) hn ?r36x4
    case y36x4 => (intro wS hS; (try go_simp); (try with_reducible rfl))
    try simp only [Act.put, List.setIfInBounds_toArray, List.set_cons_zero, List.set_cons_succ]
    refine wpAnyH_take (i := 6) (oi := { dst := some 20, op := Op.load 22 (Operand.tmp 19), type := 22, pos := "op.go:109", after := #[{ on := 5, ground := Ground.data }], guard := none }) (v := ?v36x5) rfl (by kernel_rfl) (by kernel_rfl) (by kernel_rfl) (fun _ _ _ h => h) (Or.inl ⟨by rfl, ?y36x5⟩) hn ?r36x5
    case y36x5 => (intro wS hS; have c0 := hS.cell z1.out (fun h => absurd (HLT.out _ h) (Nat.lt_irrefl _)); (try go_simp); (try with_reducible rfl))
    try simp only [Act.put, List.setIfInBounds_toArray, List.set_cons_zero, List.set_cons_succ]
    refine wpAnyH_take (i := 7) (oi := { dst := some 21, op := Op.convert 22 79 (Operand.tmp 20), type := 79, pos := "op.go:109", after := #[{ on := 6, ground := Ground.data }], guard := none }) (v := ?v36x6) rfl (by kernel_rfl) (by kernel_rfl) (by kernel_rfl) (fun _ _ _ h => h) (Or.inl ⟨by rfl, ?y36x6⟩) hn ?r36x6
    case y36x6 => (intro wS hS; (try go_simp); (try with_reducible rfl))
    try simp only [Act.put, List.setIfInBounds_toArray, List.set_cons_zero, List.set_cons_succ]
    refine wpAnyH_ready (rs := [3]) (by kernel_rfl) (by simp) ?_
    refine AllReadyH.cons (o := { dst := some 17, op := Op.buildSlice 39 1 #[(0, Operand.tmp 16)], type := 39, pos := "op.go:109", after := #[{ on := 2, ground := Ground.data }], guard := none }) rfl (fun K hK => ?_) AllReadyH.nil
    go_simp
    have hr := Rd.lit w1.drew [UInt8.ofNat p] 5
    simp only [List.map_cons, List.map_nil, cb_of _ hp] at hr
    refine hK.out _ _ (by first | exact hn | exact Upd.alloc hn _) (fun hn => ?_)
    clear hK K
    try simp only [Act.put, List.setIfInBounds_toArray, List.set_cons_zero, List.set_cons_succ]
    refine wpAnyH_ready (rs := [4]) (by kernel_rfl) (by simp) ?_
    refine AllReadyH.cons (o := { dst := some 18, op := Op.call { callee := Callee.builtin Builtin.append, args := #[Operand.tmp 14, Operand.tmp 17], argTypes := #[39, 39] }, type := 39, pos := "op.go:109", after := #[{ on := 0, ground := Ground.data }, { on := 3, ground := Ground.data }], guard := none }) rfl (fun K hK => ?_) AllReadyH.nil
    refine stepR _ _ ((HB1.out.new ((Upd.refl _ _).drew)).new ((Upd.refl _ _).alloc _)) hr ?_ rfl rfl rfl rfl ?_
    · (simp only [List.length_cons, List.length_nil]; omega)
    intro va wa hba haa
    have hn := Upd.trans ((Upd.refl _ w1).drew.alloc _) haa.upd (fun i _ h => h)
    refine hK.out _ _ (by first | exact hn | exact Upd.alloc hn _) (fun hn => ?_)
    clear hK K
    try simp only [Act.put, List.setIfInBounds_toArray, List.set_cons_zero, List.set_cons_succ]
    refine wpAnyH_ready (rs := [8]) (by kernel_rfl) (by simp) ?_
    refine AllReadyH.cons (o := { dst := some 22, op := Op.call { callee := Callee.value (Operand.func 41), args := #[Operand.tmp 18, Operand.tmp 21], argTypes := #[39, 79] }, type := 39, pos := "op.go:109", after := #[{ on := 4, ground := Ground.data }, { on := 7, ground := Ground.data }, { on := 4, ground := Ground.chain }], guard := none }) rfl (fun K hK => ?_) AllReadyH.nil
    go_simp
    with_reducible refine (putU_any _ _ c _ (by omega) (by simp only [List.length_append, List.length_cons, List.length_nil]; omega) hba).mono ?_
    rintro e wb ⟨vb, rfl, hbb, hab⟩
    go_wp2_with fail
    have hadd := Adds.trans (Adds.ahead ((Upd.refl _ w1).drew.alloc _) haa) hab
    have hn := hadd.upd
    refine hK.out _ _ (by first | exact hn | exact Upd.alloc hn _) (fun hn => ?_)
    clear hK K
    try simp only [Act.put, List.setIfInBounds_toArray, List.set_cons_zero, List.set_cons_succ]
    refine wpAnyH_take (i := 9) (oi := { dst := some 4, op := Op.assign (Operand.tmp 22), type := 39, pos := "op.go:109", after := #[{ on := 8, ground := Ground.data }, { on := 8, ground := Ground.chain }, { on := 0, ground := Ground.phase }, { on := 1, ground := Ground.phase }, { on := 2, ground := Ground.phase }, { on := 3, ground := Ground.phase }, { on := 4, ground := Ground.phase }, { on := 5, ground := Ground.phase }, { on := 6, ground := Ground.phase }, { on := 7, ground := Ground.phase }, { on := 8, ground := Ground.phase }], guard := none }) (v := ?v36x7) rfl (by kernel_rfl) (by kernel_rfl) (by kernel_rfl) (fun _ _ _ h => h) (Or.inl ⟨by rfl, ?y36x7⟩) hn ?r36x7
    case y36x7 => (intro wS hS; (try go_simp); (try with_reducible rfl))
    try simp only [Act.put, List.setIfInBounds_toArray, List.set_cons_zero, List.set_cons_succ]
    refine wpAnyH_done (by kernel_rfl) ?_ _
    refine NoPanic.normal ?_
    go_wp2_with fail
    go_ret
    refine ⟨_, rfl, ?_, Adds.ahead HN1.out hadd⟩
    rw [List.append_assoc] at hbb
    exact hbb
end Go.Proofs.Ytnngibflnnmioaa
