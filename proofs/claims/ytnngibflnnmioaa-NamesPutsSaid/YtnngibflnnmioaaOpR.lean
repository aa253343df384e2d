/-
  The walks of ops: the document's answers.
-/
import Derived.Test.YtnngibflnnmioaaOpF
namespace Go.Proofs.Ytnngibflnnmioaa
open Go.RowKit Go.Proofs.Own
set_option maxRecDepth 100000
set_option maxHeartbeats 4000000

theorem cellList (w : World) (vs : List Int) (t : TypeId) (i : Nat) (h : i < vs.length) : (w.alloc (.cells (vs.map fun n => Value.int .i64 n).toArray t)).cell? ⟨w.heap.size, i, none⟩ = some (.int .i64 vs[i]) := by
  rw [cell_of_row _ w.heap.size i _ t (0, 0) (heap_alloc_new w _)]
  simp [h]

def rplainV (c : Int) : Int :=
  if c = 0 ∨ c = 1 ∨ c = 5 ∨ c = 11 ∨ c = 15 ∨ c = 26 ∨ c = 27 ∨ c = 209 then 0
  else if c = 2 ∨ c = 3 ∨ c = 4 then 1
  else if c = 12 ∨ c = 13 ∨ c = 16 ∨ c = 210 then 2
  else if c = 17 then 3
  else if c = 14 then 4
  else if c = 63 ∨ c = 64 then 6
  else if c = 65 ∨ c = 66 ∨ c = 67 ∨ c = 68 then c - 56
  else if c = 208 then 17
  else if c = 28 then 18
  else if 32 ≤ c ∧ c ≤ 38 then 2
  else if 40 ≤ c ∧ c ≤ 62 then 5
  else if 69 ≤ c ∧ c ≤ 196 then 0
  else -1
def rmiscV (c : Int) : Int :=
  if 0 ≤ c ∧ c ≤ 7 then 0
  else if c = 8 then 8
  else if c = 9 ∨ c = 13 ∨ c = 15 ∨ c = 16 ∨ c = 17 then 2
  else if c = 10 then 7
  else if c = 11 then 6
  else if c = 12 ∨ c = 14 then 3
  else -1
def IntP (s : Int) (w : World) (e : Ending) (w' : World) : Prop := e = .returned (.int .i64 s) ∧ w = w'
theorem rplain_any (c : Int) (w : World) (c0 : 0 ≤ c) (c1 : c ≤ 255) : Calls Try.prog 84 #[.int .i64 c] w (IntP (rplainV c) w) := by
  obtain ⟨s, hs⟩ : ∃ s, rplainV c = s := ⟨_, rfl⟩
  rw [hs]
  have HS := hid hs
  clear hs
  go_enter Try.func84, Try.ntmps84
  go_wp2_with fail
  all_goals
    go_ret
    refine ⟨?_, rfl⟩
    rw [← HS.out]
    clear HS
    try simp only [beq_iff_eq, beq_eq_false_iff_ne, ne_eq] at *
    unfold rplainV
    repeat (first | rw [if_pos (by omega)] | rw [if_neg (by omega)])
    first | rfl | omega

theorem rmisc_any (c : Int) (w : World) (c0 : 0 ≤ c) (c1 : c ≤ 255) : Calls Try.prog 85 #[.int .i64 c] w (IntP (rmiscV c) w) := by
  obtain ⟨s, hs⟩ : ∃ s, rmiscV c = s := ⟨_, rfl⟩
  rw [hs]
  have HS := hid hs
  clear hs
  go_enter Try.func85, Try.ntmps85
  go_wp2_with fail
  all_goals
    go_ret
    refine ⟨?_, rfl⟩
    rw [← HS.out]
    clear HS
    try simp only [beq_iff_eq, beq_eq_false_iff_ne, ne_eq] at *
    unfold rmiscV
    repeat (first | rw [if_pos (by omega)] | rw [if_neg (by omega)])
    first | rfl | omega


def laneT : List Int := [16, 16, 16, 8, 8, 8, 4, 4, 2, 2, 4, 4, 2, 2]
def rvectorV (c : Int) : Int × Int :=
  if missP c then (-1, 0)
  else if c = 92 ∨ c = 93 then (5, 0)
  else if c = 12 then (13, 0)
  else if c = 13 then (14, 0)
  else if c ≤ 11 then (5, 0)
  else if 21 ≤ c ∧ c ≤ 34 then (15, laneT.getD (c - 21).toNat 0)
  else if 84 ≤ c ∧ c ≤ 91 then (16, [16, 8, 4, 2].getD ((c - 84) % 4).toNat 0)
  else (0, 0)
def VecP (r : Int × Int) (w : World) (e : Ending) (w' : World) : Prop := e = .returned (.tuple #[.int .i64 r.1, .int .i64 r.2]) ∧ New w w'

theorem rvector_21 (w : World) : Calls Try.prog 86 #[.int .i64 21] w (VecP (rvectorV 21) w) := by
  have e0 : IntKind.i64.wrap 0 = 0 := by decide
  have e1 : IntKind.i64.wrap 1 = 1 := by decide
  have e2 : IntKind.i64.wrap 2 = 2 := by decide
  have e3 : IntKind.i64.wrap 3 = 3 := by decide
  have e4 : IntKind.i64.wrap 4 = 4 := by decide
  have e5 : IntKind.i64.wrap 5 = 5 := by decide
  have e6 : IntKind.i64.wrap 6 = 6 := by decide
  have e7 : IntKind.i64.wrap 7 = 7 := by decide
  have e8 : IntKind.i64.wrap 8 = 8 := by decide
  have e9 : IntKind.i64.wrap 9 = 9 := by decide
  have e10 : IntKind.i64.wrap 10 = 10 := by decide
  have e11 : IntKind.i64.wrap 11 = 11 := by decide
  have e12 : IntKind.i64.wrap 12 = 12 := by decide
  have e13 : IntKind.i64.wrap 13 = 13 := by decide
  go_enter Try.func86, Try.ntmps86
  go_wp2_with fail
  have hn : New w w.drew := (Upd.refl _ _).drew
  refine wp_region_noPanic ?_
  refine wp_region_held_drew (S := (New w)) (by kernel_rfl) (by first | exact hn | exact (Upd.refl _ _).drew | exact Upd.drew (by assumption)) (fun hn => ?_)
  refine wpAnyH_take (i := 1) (oi := { dst := some 42, op := Op.move (Operand.tmp 0), type := 3, pos := "ref.go:89", after := #[{ on := 5, ground := Ground.gcOnly Departure.lateStores }], guard := none }) (v := ?v6x1) rfl (by kernel_rfl) (by kernel_rfl) (by kernel_rfl) (fun _ _ _ h => h) (Or.inl ⟨by rfl, ?y6x1⟩) hn ?r6x1
  case y6x1 => (intro wS hS; (try go_simp); (try with_reducible rfl))
  try simp only [Act.put, List.setIfInBounds_toArray, List.set_cons_zero, List.set_cons_succ]
  refine wpAnyH_take (i := 2) (oi := { dst := some 43, op := Op.binOp BinOp.sub 3 (Operand.tmp 42) (Operand.const (Value.int IntKind.i64 21)) 3, type := 3, pos := "ref.go:89", after := #[{ on := 1, ground := Ground.data }, { on := 5, ground := Ground.gcOnly Departure.lateStores }], guard := none }) (v := ?v6x2) rfl (by kernel_rfl) (by kernel_rfl) (by kernel_rfl) (fun _ _ _ h => h) (Or.inl ⟨by rfl, ?y6x2⟩) hn ?r6x2
  case y6x2 => (intro wS hS; (try go_simp); (try with_reducible rfl))
  try simp only [Act.put, List.setIfInBounds_toArray, List.set_cons_zero, List.set_cons_succ]
  refine wpAnyH_take (i := 5) (oi := { dst := some 2, op := Op.assign (Operand.const (Value.int IntKind.i64 15)), type := 3, pos := "ref.go:89", after := #[{ on := 0, ground := Ground.textOnly Departure.lateStores }, { on := 1, ground := Ground.textOnly Departure.lateStores }, { on := 2, ground := Ground.textOnly Departure.lateStores }, { on := 3, ground := Ground.textOnly Departure.lateStores }, { on := 4, ground := Ground.textOnly Departure.lateStores }], guard := none }) (v := ?v6x3) rfl (by kernel_rfl) (by kernel_rfl) (by kernel_rfl) (fun _ _ _ h => h) (Or.inl ⟨by rfl, ?y6x3⟩) hn ?r6x3
  case y6x3 => (intro wS hS; (try go_simp); (try with_reducible rfl))
  try simp only [Act.put, List.setIfInBounds_toArray, List.set_cons_zero, List.set_cons_succ]
  refine wpAnyH_ready (rs := [0]) (by kernel_rfl) (by simp) ?_
  refine AllReadyH.cons (o := { dst := some 41, op := Op.buildSlice 62 14 #[(0, Operand.const (Value.int IntKind.i64 16)), (1, Operand.const (Value.int IntKind.i64 16)), (2, Operand.const (Value.int IntKind.i64 16)), (3, Operand.const (Value.int IntKind.i64 8)), (4, Operand.const (Value.int IntKind.i64 8)), (5, Operand.const (Value.int IntKind.i64 8)), (6, Operand.const (Value.int IntKind.i64 4)), (7, Operand.const (Value.int IntKind.i64 4)), (8, Operand.const (Value.int IntKind.i64 2)), (9, Operand.const (Value.int IntKind.i64 2)), (10, Operand.const (Value.int IntKind.i64 4)), (11, Operand.const (Value.int IntKind.i64 4)), (12, Operand.const (Value.int IntKind.i64 2)), (13, Operand.const (Value.int IntKind.i64 2))], type := 62, pos := "ref.go:89", after := #[{ on := 5, ground := Ground.gcOnly Departure.lateStores }], guard := none }) rfl (fun K hK => ?_) AllReadyH.nil
  go_simp
  refine hK.out _ _ (by first | exact hn | exact Upd.alloc hn _) (fun hn => ?_)
  clear hK K
  try simp only [Act.put, List.setIfInBounds_toArray, List.set_cons_zero, List.set_cons_succ]
  refine wpAnyH_take (i := 3) (oi := { dst := some 44, op := Op.indexAddr 62 (Operand.tmp 41) (Operand.tmp 43), type := 0, pos := "ref.go:89", after := #[{ on := 0, ground := Ground.data }, { on := 2, ground := Ground.data }, { on := 5, ground := Ground.gcOnly Departure.lateStores }], guard := none }) (v := ?v6x4) rfl (by kernel_rfl) (by kernel_rfl) (by kernel_rfl) (fun _ _ _ h => h) (Or.inl ⟨by rfl, ?y6x4⟩) hn ?r6x4
  case y6x4 => (intro wS hS; (try go_simp); (try with_reducible rfl))
  try simp only [Act.put, List.setIfInBounds_toArray, List.set_cons_zero, List.set_cons_succ]
  refine wpAnyH_ready (rs := [4]) (by kernel_rfl) (by simp) ?_
  refine AllReadyH.cons (o := { dst := some 45, op := Op.load 3 (Operand.tmp 44), type := 3, pos := "ref.go:89", after := #[{ on := 3, ground := Ground.data }, { on := 5, ground := Ground.gcOnly Departure.lateStores }], guard := none }) rfl (fun K hK => ?_) AllReadyH.nil
  go_simp
  refine hK.out _ _ (by first | exact hn | exact Upd.alloc hn _) (fun hn => ?_)
  clear hK K
  try simp only [Act.put, List.setIfInBounds_toArray, List.set_cons_zero, List.set_cons_succ]
  refine wpAnyH_take (i := 6) (oi := { dst := some 3, op := Op.assign (Operand.tmp 45), type := 3, pos := "ref.go:89", after := #[{ on := 4, ground := Ground.data }, { on := 5, ground := Ground.chain }, { on := 0, ground := Ground.phase }, { on := 1, ground := Ground.phase }, { on := 2, ground := Ground.phase }, { on := 3, ground := Ground.phase }, { on := 4, ground := Ground.phase }, { on := 5, ground := Ground.phase }], guard := none }) (v := ?v6x5) rfl (by kernel_rfl) (by kernel_rfl) (by kernel_rfl) (fun _ _ _ h => h) (Or.inl ⟨by rfl, ?y6x5⟩) hn ?r6x5
  case y6x5 => (intro wS hS; (try go_simp); (try with_reducible rfl))
  try simp only [Act.put, List.setIfInBounds_toArray, List.set_cons_zero, List.set_cons_succ]
  refine wpAnyH_done (by kernel_rfl) ?_ _
  refine NoPanic.normal ?_
  go_wp2_with fail
  go_ret2
  exact ⟨rfl, hn⟩
theorem rvector_22 (w : World) : Calls Try.prog 86 #[.int .i64 22] w (VecP (rvectorV 22) w) := by
  have e0 : IntKind.i64.wrap 0 = 0 := by decide
  have e1 : IntKind.i64.wrap 1 = 1 := by decide
  have e2 : IntKind.i64.wrap 2 = 2 := by decide
  have e3 : IntKind.i64.wrap 3 = 3 := by decide
  have e4 : IntKind.i64.wrap 4 = 4 := by decide
  have e5 : IntKind.i64.wrap 5 = 5 := by decide
  have e6 : IntKind.i64.wrap 6 = 6 := by decide
  have e7 : IntKind.i64.wrap 7 = 7 := by decide
  have e8 : IntKind.i64.wrap 8 = 8 := by decide
  have e9 : IntKind.i64.wrap 9 = 9 := by decide
  have e10 : IntKind.i64.wrap 10 = 10 := by decide
  have e11 : IntKind.i64.wrap 11 = 11 := by decide
  have e12 : IntKind.i64.wrap 12 = 12 := by decide
  have e13 : IntKind.i64.wrap 13 = 13 := by decide
  go_enter Try.func86, Try.ntmps86
  go_wp2_with fail
  have hn : New w w.drew := (Upd.refl _ _).drew
  refine wp_region_noPanic ?_
  refine wp_region_held_drew (S := (New w)) (by kernel_rfl) (by first | exact hn | exact (Upd.refl _ _).drew | exact Upd.drew (by assumption)) (fun hn => ?_)
  refine wpAnyH_take (i := 1) (oi := { dst := some 42, op := Op.move (Operand.tmp 0), type := 3, pos := "ref.go:89", after := #[{ on := 5, ground := Ground.gcOnly Departure.lateStores }], guard := none }) (v := ?v7x1) rfl (by kernel_rfl) (by kernel_rfl) (by kernel_rfl) (fun _ _ _ h => h) (Or.inl ⟨by rfl, ?y7x1⟩) hn ?r7x1
  case y7x1 => (intro wS hS; (try go_simp); (try with_reducible rfl))
  try simp only [Act.put, List.setIfInBounds_toArray, List.set_cons_zero, List.set_cons_succ]
  refine wpAnyH_take (i := 2) (oi := { dst := some 43, op := Op.binOp BinOp.sub 3 (Operand.tmp 42) (Operand.const (Value.int IntKind.i64 21)) 3, type := 3, pos := "ref.go:89", after := #[{ on := 1, ground := Ground.data }, { on := 5, ground := Ground.gcOnly Departure.lateStores }], guard := none }) (v := ?v7x2) rfl (by kernel_rfl) (by kernel_rfl) (by kernel_rfl) (fun _ _ _ h => h) (Or.inl ⟨by rfl, ?y7x2⟩) hn ?r7x2
  case y7x2 => (intro wS hS; (try go_simp); (try with_reducible rfl))
  try simp only [Act.put, List.setIfInBounds_toArray, List.set_cons_zero, List.set_cons_succ]
  refine wpAnyH_take (i := 5) (oi := { dst := some 2, op := Op.assign (Operand.const (Value.int IntKind.i64 15)), type := 3, pos := "ref.go:89", after := #[{ on := 0, ground := Ground.textOnly Departure.lateStores }, { on := 1, ground := Ground.textOnly Departure.lateStores }, { on := 2, ground := Ground.textOnly Departure.lateStores }, { on := 3, ground := Ground.textOnly Departure.lateStores }, { on := 4, ground := Ground.textOnly Departure.lateStores }], guard := none }) (v := ?v7x3) rfl (by kernel_rfl) (by kernel_rfl) (by kernel_rfl) (fun _ _ _ h => h) (Or.inl ⟨by rfl, ?y7x3⟩) hn ?r7x3
  case y7x3 => (intro wS hS; (try go_simp); (try with_reducible rfl))
  try simp only [Act.put, List.setIfInBounds_toArray, List.set_cons_zero, List.set_cons_succ]
  refine wpAnyH_ready (rs := [0]) (by kernel_rfl) (by simp) ?_
  refine AllReadyH.cons (o := { dst := some 41, op := Op.buildSlice 62 14 #[(0, Operand.const (Value.int IntKind.i64 16)), (1, Operand.const (Value.int IntKind.i64 16)), (2, Operand.const (Value.int IntKind.i64 16)), (3, Operand.const (Value.int IntKind.i64 8)), (4, Operand.const (Value.int IntKind.i64 8)), (5, Operand.const (Value.int IntKind.i64 8)), (6, Operand.const (Value.int IntKind.i64 4)), (7, Operand.const (Value.int IntKind.i64 4)), (8, Operand.const (Value.int IntKind.i64 2)), (9, Operand.const (Value.int IntKind.i64 2)), (10, Operand.const (Value.int IntKind.i64 4)), (11, Operand.const (Value.int IntKind.i64 4)), (12, Operand.const (Value.int IntKind.i64 2)), (13, Operand.const (Value.int IntKind.i64 2))], type := 62, pos := "ref.go:89", after := #[{ on := 5, ground := Ground.gcOnly Departure.lateStores }], guard := none }) rfl (fun K hK => ?_) AllReadyH.nil
  go_simp
  refine hK.out _ _ (by first | exact hn | exact Upd.alloc hn _) (fun hn => ?_)
  clear hK K
  try simp only [Act.put, List.setIfInBounds_toArray, List.set_cons_zero, List.set_cons_succ]
  refine wpAnyH_take (i := 3) (oi := { dst := some 44, op := Op.indexAddr 62 (Operand.tmp 41) (Operand.tmp 43), type := 0, pos := "ref.go:89", after := #[{ on := 0, ground := Ground.data }, { on := 2, ground := Ground.data }, { on := 5, ground := Ground.gcOnly Departure.lateStores }], guard := none }) (v := ?v7x4) rfl (by kernel_rfl) (by kernel_rfl) (by kernel_rfl) (fun _ _ _ h => h) (Or.inl ⟨by rfl, ?y7x4⟩) hn ?r7x4
  case y7x4 => (intro wS hS; (try go_simp); (try with_reducible rfl))
  try simp only [Act.put, List.setIfInBounds_toArray, List.set_cons_zero, List.set_cons_succ]
  refine wpAnyH_ready (rs := [4]) (by kernel_rfl) (by simp) ?_
  refine AllReadyH.cons (o := { dst := some 45, op := Op.load 3 (Operand.tmp 44), type := 3, pos := "ref.go:89", after := #[{ on := 3, ground := Ground.data }, { on := 5, ground := Ground.gcOnly Departure.lateStores }], guard := none }) rfl (fun K hK => ?_) AllReadyH.nil
  go_simp
  refine hK.out _ _ (by first | exact hn | exact Upd.alloc hn _) (fun hn => ?_)
  clear hK K
  try simp only [Act.put, List.setIfInBounds_toArray, List.set_cons_zero, List.set_cons_succ]
  refine wpAnyH_take (i := 6) (oi := { dst := some 3, op := Op.assign (Operand.tmp 45), type := 3, pos := "ref.go:89", after := #[{ on := 4, ground := Ground.data }, { on := 5, ground := Ground.chain }, { on := 0, ground := Ground.phase }, { on := 1, ground := Ground.phase }, { on := 2, ground := Ground.phase }, { on := 3, ground := Ground.phase }, { on := 4, ground := Ground.phase }, { on := 5, ground := Ground.phase }], guard := none }) (v := ?v7x5) rfl (by kernel_rfl) (by kernel_rfl) (by kernel_rfl) (fun _ _ _ h => h) (Or.inl ⟨by rfl, ?y7x5⟩) hn ?r7x5
  case y7x5 => (intro wS hS; (try go_simp); (try with_reducible rfl))
  try simp only [Act.put, List.setIfInBounds_toArray, List.set_cons_zero, List.set_cons_succ]
  refine wpAnyH_done (by kernel_rfl) ?_ _
  refine NoPanic.normal ?_
  go_wp2_with fail
  go_ret2
  exact ⟨rfl, hn⟩
theorem rvector_23 (w : World) : Calls Try.prog 86 #[.int .i64 23] w (VecP (rvectorV 23) w) := by
  have e0 : IntKind.i64.wrap 0 = 0 := by decide
  have e1 : IntKind.i64.wrap 1 = 1 := by decide
  have e2 : IntKind.i64.wrap 2 = 2 := by decide
  have e3 : IntKind.i64.wrap 3 = 3 := by decide
  have e4 : IntKind.i64.wrap 4 = 4 := by decide
  have e5 : IntKind.i64.wrap 5 = 5 := by decide
  have e6 : IntKind.i64.wrap 6 = 6 := by decide
  have e7 : IntKind.i64.wrap 7 = 7 := by decide
  have e8 : IntKind.i64.wrap 8 = 8 := by decide
  have e9 : IntKind.i64.wrap 9 = 9 := by decide
  have e10 : IntKind.i64.wrap 10 = 10 := by decide
  have e11 : IntKind.i64.wrap 11 = 11 := by decide
  have e12 : IntKind.i64.wrap 12 = 12 := by decide
  have e13 : IntKind.i64.wrap 13 = 13 := by decide
  go_enter Try.func86, Try.ntmps86
  go_wp2_with fail
  have hn : New w w.drew := (Upd.refl _ _).drew
  refine wp_region_noPanic ?_
  refine wp_region_held_drew (S := (New w)) (by kernel_rfl) (by first | exact hn | exact (Upd.refl _ _).drew | exact Upd.drew (by assumption)) (fun hn => ?_)
  refine wpAnyH_take (i := 1) (oi := { dst := some 42, op := Op.move (Operand.tmp 0), type := 3, pos := "ref.go:89", after := #[{ on := 5, ground := Ground.gcOnly Departure.lateStores }], guard := none }) (v := ?v8x1) rfl (by kernel_rfl) (by kernel_rfl) (by kernel_rfl) (fun _ _ _ h => h) (Or.inl ⟨by rfl, ?y8x1⟩) hn ?r8x1
  case y8x1 => (intro wS hS; (try go_simp); (try with_reducible rfl))
  try simp only [Act.put, List.setIfInBounds_toArray, List.set_cons_zero, List.set_cons_succ]
  refine wpAnyH_take (i := 2) (oi := { dst := some 43, op := Op.binOp BinOp.sub 3 (Operand.tmp 42) (Operand.const (Value.int IntKind.i64 21)) 3, type := 3, pos := "ref.go:89", after := #[{ on := 1, ground := Ground.data }, { on := 5, ground := Ground.gcOnly Departure.lateStores }], guard := none }) (v := ?v8x2) rfl (by kernel_rfl) (by kernel_rfl) (by kernel_rfl) (fun _ _ _ h => h) (Or.inl ⟨by rfl, ?y8x2⟩) hn ?r8x2
  case y8x2 => (intro wS hS; (try go_simp); (try with_reducible rfl))
  try simp only [Act.put, List.setIfInBounds_toArray, List.set_cons_zero, List.set_cons_succ]
  refine wpAnyH_take (i := 5) (oi := { dst := some 2, op := Op.assign (Operand.const (Value.int IntKind.i64 15)), type := 3, pos := "ref.go:89", after := #[{ on := 0, ground := Ground.textOnly Departure.lateStores }, { on := 1, ground := Ground.textOnly Departure.lateStores }, { on := 2, ground := Ground.textOnly Departure.lateStores }, { on := 3, ground := Ground.textOnly Departure.lateStores }, { on := 4, ground := Ground.textOnly Departure.lateStores }], guard := none }) (v := ?v8x3) rfl (by kernel_rfl) (by kernel_rfl) (by kernel_rfl) (fun _ _ _ h => h) (Or.inl ⟨by rfl, ?y8x3⟩) hn ?r8x3
  case y8x3 => (intro wS hS; (try go_simp); (try with_reducible rfl))
  try simp only [Act.put, List.setIfInBounds_toArray, List.set_cons_zero, List.set_cons_succ]
  refine wpAnyH_ready (rs := [0]) (by kernel_rfl) (by simp) ?_
  refine AllReadyH.cons (o := { dst := some 41, op := Op.buildSlice 62 14 #[(0, Operand.const (Value.int IntKind.i64 16)), (1, Operand.const (Value.int IntKind.i64 16)), (2, Operand.const (Value.int IntKind.i64 16)), (3, Operand.const (Value.int IntKind.i64 8)), (4, Operand.const (Value.int IntKind.i64 8)), (5, Operand.const (Value.int IntKind.i64 8)), (6, Operand.const (Value.int IntKind.i64 4)), (7, Operand.const (Value.int IntKind.i64 4)), (8, Operand.const (Value.int IntKind.i64 2)), (9, Operand.const (Value.int IntKind.i64 2)), (10, Operand.const (Value.int IntKind.i64 4)), (11, Operand.const (Value.int IntKind.i64 4)), (12, Operand.const (Value.int IntKind.i64 2)), (13, Operand.const (Value.int IntKind.i64 2))], type := 62, pos := "ref.go:89", after := #[{ on := 5, ground := Ground.gcOnly Departure.lateStores }], guard := none }) rfl (fun K hK => ?_) AllReadyH.nil
  go_simp
  refine hK.out _ _ (by first | exact hn | exact Upd.alloc hn _) (fun hn => ?_)
  clear hK K
  try simp only [Act.put, List.setIfInBounds_toArray, List.set_cons_zero, List.set_cons_succ]
  refine wpAnyH_take (i := 3) (oi := { dst := some 44, op := Op.indexAddr 62 (Operand.tmp 41) (Operand.tmp 43), type := 0, pos := "ref.go:89", after := #[{ on := 0, ground := Ground.data }, { on := 2, ground := Ground.data }, { on := 5, ground := Ground.gcOnly Departure.lateStores }], guard := none }) (v := ?v8x4) rfl (by kernel_rfl) (by kernel_rfl) (by kernel_rfl) (fun _ _ _ h => h) (Or.inl ⟨by rfl, ?y8x4⟩) hn ?r8x4
  case y8x4 => (intro wS hS; (try go_simp); (try with_reducible rfl))
  try simp only [Act.put, List.setIfInBounds_toArray, List.set_cons_zero, List.set_cons_succ]
  refine wpAnyH_ready (rs := [4]) (by kernel_rfl) (by simp) ?_
  refine AllReadyH.cons (o := { dst := some 45, op := Op.load 3 (Operand.tmp 44), type := 3, pos := "ref.go:89", after := #[{ on := 3, ground := Ground.data }, { on := 5, ground := Ground.gcOnly Departure.lateStores }], guard := none }) rfl (fun K hK => ?_) AllReadyH.nil
  go_simp
  refine hK.out _ _ (by first | exact hn | exact Upd.alloc hn _) (fun hn => ?_)
  clear hK K
  try simp only [Act.put, List.setIfInBounds_toArray, List.set_cons_zero, List.set_cons_succ]
  refine wpAnyH_take (i := 6) (oi := { dst := some 3, op := Op.assign (Operand.tmp 45), type := 3, pos := "ref.go:89", after := #[{ on := 4, ground := Ground.data }, { on := 5, ground := Ground.chain }, { on := 0, ground := Ground.phase }, { on := 1, ground := Ground.phase }, { on := 2, ground := Ground.phase }, { on := 3, ground := Ground.phase }, { on := 4, ground := Ground.phase }, { on := 5, ground := Ground.phase }], guard := none }) (v := ?v8x5) rfl (by kernel_rfl) (by kernel_rfl) (by kernel_rfl) (fun _ _ _ h => h) (Or.inl ⟨by rfl, ?y8x5⟩) hn ?r8x5
  case y8x5 => (intro wS hS; (try go_simp); (try with_reducible rfl))
  try simp only [Act.put, List.setIfInBounds_toArray, List.set_cons_zero, List.set_cons_succ]
  refine wpAnyH_done (by kernel_rfl) ?_ _
  refine NoPanic.normal ?_
  go_wp2_with fail
  go_ret2
  exact ⟨rfl, hn⟩
theorem rvector_24 (w : World) : Calls Try.prog 86 #[.int .i64 24] w (VecP (rvectorV 24) w) := by
  have e0 : IntKind.i64.wrap 0 = 0 := by decide
  have e1 : IntKind.i64.wrap 1 = 1 := by decide
  have e2 : IntKind.i64.wrap 2 = 2 := by decide
  have e3 : IntKind.i64.wrap 3 = 3 := by decide
  have e4 : IntKind.i64.wrap 4 = 4 := by decide
  have e5 : IntKind.i64.wrap 5 = 5 := by decide
  have e6 : IntKind.i64.wrap 6 = 6 := by decide
  have e7 : IntKind.i64.wrap 7 = 7 := by decide
  have e8 : IntKind.i64.wrap 8 = 8 := by decide
  have e9 : IntKind.i64.wrap 9 = 9 := by decide
  have e10 : IntKind.i64.wrap 10 = 10 := by decide
  have e11 : IntKind.i64.wrap 11 = 11 := by decide
  have e12 : IntKind.i64.wrap 12 = 12 := by decide
  have e13 : IntKind.i64.wrap 13 = 13 := by decide
  go_enter Try.func86, Try.ntmps86
  go_wp2_with fail
  have hn : New w w.drew := (Upd.refl _ _).drew
  refine wp_region_noPanic ?_
  refine wp_region_held_drew (S := (New w)) (by kernel_rfl) (by first | exact hn | exact (Upd.refl _ _).drew | exact Upd.drew (by assumption)) (fun hn => ?_)
  refine wpAnyH_take (i := 1) (oi := { dst := some 42, op := Op.move (Operand.tmp 0), type := 3, pos := "ref.go:89", after := #[{ on := 5, ground := Ground.gcOnly Departure.lateStores }], guard := none }) (v := ?v9x1) rfl (by kernel_rfl) (by kernel_rfl) (by kernel_rfl) (fun _ _ _ h => h) (Or.inl ⟨by rfl, ?y9x1⟩) hn ?r9x1
  case y9x1 => (intro wS hS; (try go_simp); (try with_reducible rfl))
  try simp only [Act.put, List.setIfInBounds_toArray, List.set_cons_zero, List.set_cons_succ]
  refine wpAnyH_take (i := 2) (oi := { dst := some 43, op := Op.binOp BinOp.sub 3 (Operand.tmp 42) (Operand.const (Value.int IntKind.i64 21)) 3, type := 3, pos := "ref.go:89", after := #[{ on := 1, ground := Ground.data }, { on := 5, ground := Ground.gcOnly Departure.lateStores }], guard := none }) (v := ?v9x2) rfl (by kernel_rfl) (by kernel_rfl) (by kernel_rfl) (fun _ _ _ h => h) (Or.inl ⟨by rfl, ?y9x2⟩) hn ?r9x2
  case y9x2 => (intro wS hS; (try go_simp); (try with_reducible rfl))
  try simp only [Act.put, List.setIfInBounds_toArray, List.set_cons_zero, List.set_cons_succ]
  refine wpAnyH_take (i := 5) (oi := { dst := some 2, op := Op.assign (Operand.const (Value.int IntKind.i64 15)), type := 3, pos := "ref.go:89", after := #[{ on := 0, ground := Ground.textOnly Departure.lateStores }, { on := 1, ground := Ground.textOnly Departure.lateStores }, { on := 2, ground := Ground.textOnly Departure.lateStores }, { on := 3, ground := Ground.textOnly Departure.lateStores }, { on := 4, ground := Ground.textOnly Departure.lateStores }], guard := none }) (v := ?v9x3) rfl (by kernel_rfl) (by kernel_rfl) (by kernel_rfl) (fun _ _ _ h => h) (Or.inl ⟨by rfl, ?y9x3⟩) hn ?r9x3
  case y9x3 => (intro wS hS; (try go_simp); (try with_reducible rfl))
  try simp only [Act.put, List.setIfInBounds_toArray, List.set_cons_zero, List.set_cons_succ]
  refine wpAnyH_ready (rs := [0]) (by kernel_rfl) (by simp) ?_
  refine AllReadyH.cons (o := { dst := some 41, op := Op.buildSlice 62 14 #[(0, Operand.const (Value.int IntKind.i64 16)), (1, Operand.const (Value.int IntKind.i64 16)), (2, Operand.const (Value.int IntKind.i64 16)), (3, Operand.const (Value.int IntKind.i64 8)), (4, Operand.const (Value.int IntKind.i64 8)), (5, Operand.const (Value.int IntKind.i64 8)), (6, Operand.const (Value.int IntKind.i64 4)), (7, Operand.const (Value.int IntKind.i64 4)), (8, Operand.const (Value.int IntKind.i64 2)), (9, Operand.const (Value.int IntKind.i64 2)), (10, Operand.const (Value.int IntKind.i64 4)), (11, Operand.const (Value.int IntKind.i64 4)), (12, Operand.const (Value.int IntKind.i64 2)), (13, Operand.const (Value.int IntKind.i64 2))], type := 62, pos := "ref.go:89", after := #[{ on := 5, ground := Ground.gcOnly Departure.lateStores }], guard := none }) rfl (fun K hK => ?_) AllReadyH.nil
  go_simp
  refine hK.out _ _ (by first | exact hn | exact Upd.alloc hn _) (fun hn => ?_)
  clear hK K
  try simp only [Act.put, List.setIfInBounds_toArray, List.set_cons_zero, List.set_cons_succ]
  refine wpAnyH_take (i := 3) (oi := { dst := some 44, op := Op.indexAddr 62 (Operand.tmp 41) (Operand.tmp 43), type := 0, pos := "ref.go:89", after := #[{ on := 0, ground := Ground.data }, { on := 2, ground := Ground.data }, { on := 5, ground := Ground.gcOnly Departure.lateStores }], guard := none }) (v := ?v9x4) rfl (by kernel_rfl) (by kernel_rfl) (by kernel_rfl) (fun _ _ _ h => h) (Or.inl ⟨by rfl, ?y9x4⟩) hn ?r9x4
  case y9x4 => (intro wS hS; (try go_simp); (try with_reducible rfl))
  try simp only [Act.put, List.setIfInBounds_toArray, List.set_cons_zero, List.set_cons_succ]
  refine wpAnyH_ready (rs := [4]) (by kernel_rfl) (by simp) ?_
  refine AllReadyH.cons (o := { dst := some 45, op := Op.load 3 (Operand.tmp 44), type := 3, pos := "ref.go:89", after := #[{ on := 3, ground := Ground.data }, { on := 5, ground := Ground.gcOnly Departure.lateStores }], guard := none }) rfl (fun K hK => ?_) AllReadyH.nil
  go_simp
  refine hK.out _ _ (by first | exact hn | exact Upd.alloc hn _) (fun hn => ?_)
  clear hK K
  try simp only [Act.put, List.setIfInBounds_toArray, List.set_cons_zero, List.set_cons_succ]
  refine wpAnyH_take (i := 6) (oi := { dst := some 3, op := Op.assign (Operand.tmp 45), type := 3, pos := "ref.go:89", after := #[{ on := 4, ground := Ground.data }, { on := 5, ground := Ground.chain }, { on := 0, ground := Ground.phase }, { on := 1, ground := Ground.phase }, { on := 2, ground := Ground.phase }, { on := 3, ground := Ground.phase }, { on := 4, ground := Ground.phase }, { on := 5, ground := Ground.phase }], guard := none }) (v := ?v9x5) rfl (by kernel_rfl) (by kernel_rfl) (by kernel_rfl) (fun _ _ _ h => h) (Or.inl ⟨by rfl, ?y9x5⟩) hn ?r9x5
  case y9x5 => (intro wS hS; (try go_simp); (try with_reducible rfl))
  try simp only [Act.put, List.setIfInBounds_toArray, List.set_cons_zero, List.set_cons_succ]
  refine wpAnyH_done (by kernel_rfl) ?_ _
  refine NoPanic.normal ?_
  go_wp2_with fail
  go_ret2
  exact ⟨rfl, hn⟩
theorem rvector_25 (w : World) : Calls Try.prog 86 #[.int .i64 25] w (VecP (rvectorV 25) w) := by
  have e0 : IntKind.i64.wrap 0 = 0 := by decide
  have e1 : IntKind.i64.wrap 1 = 1 := by decide
  have e2 : IntKind.i64.wrap 2 = 2 := by decide
  have e3 : IntKind.i64.wrap 3 = 3 := by decide
  have e4 : IntKind.i64.wrap 4 = 4 := by decide
  have e5 : IntKind.i64.wrap 5 = 5 := by decide
  have e6 : IntKind.i64.wrap 6 = 6 := by decide
  have e7 : IntKind.i64.wrap 7 = 7 := by decide
  have e8 : IntKind.i64.wrap 8 = 8 := by decide
  have e9 : IntKind.i64.wrap 9 = 9 := by decide
  have e10 : IntKind.i64.wrap 10 = 10 := by decide
  have e11 : IntKind.i64.wrap 11 = 11 := by decide
  have e12 : IntKind.i64.wrap 12 = 12 := by decide
  have e13 : IntKind.i64.wrap 13 = 13 := by decide
  go_enter Try.func86, Try.ntmps86
  go_wp2_with fail
  have hn : New w w.drew := (Upd.refl _ _).drew
  refine wp_region_noPanic ?_
  refine wp_region_held_drew (S := (New w)) (by kernel_rfl) (by first | exact hn | exact (Upd.refl _ _).drew | exact Upd.drew (by assumption)) (fun hn => ?_)
  refine wpAnyH_take (i := 1) (oi := { dst := some 42, op := Op.move (Operand.tmp 0), type := 3, pos := "ref.go:89", after := #[{ on := 5, ground := Ground.gcOnly Departure.lateStores }], guard := none }) (v := ?v10x1) rfl (by kernel_rfl) (by kernel_rfl) (by kernel_rfl) (fun _ _ _ h => h) (Or.inl ⟨by rfl, ?y10x1⟩) hn ?r10x1
  case y10x1 => (intro wS hS; (try go_simp); (try with_reducible rfl))
  try simp only [Act.put, List.setIfInBounds_toArray, List.set_cons_zero, List.set_cons_succ]
  refine wpAnyH_take (i := 2) (oi := { dst := some 43, op := Op.binOp BinOp.sub 3 (Operand.tmp 42) (Operand.const (Value.int IntKind.i64 21)) 3, type := 3, pos := "ref.go:89", after := #[{ on := 1, ground := Ground.data }, { on := 5, ground := Ground.gcOnly Departure.lateStores }], guard := none }) (v := ?v10x2) rfl (by kernel_rfl) (by kernel_rfl) (by kernel_rfl) (fun _ _ _ h => h) (Or.inl ⟨by rfl, ?y10x2⟩) hn ?r10x2
  case y10x2 => (intro wS hS; (try go_simp); (try with_reducible rfl))
  try simp only [Act.put, List.setIfInBounds_toArray, List.set_cons_zero, List.set_cons_succ]
  refine wpAnyH_take (i := 5) (oi := { dst := some 2, op := Op.assign (Operand.const (Value.int IntKind.i64 15)), type := 3, pos := "ref.go:89", after := #[{ on := 0, ground := Ground.textOnly Departure.lateStores }, { on := 1, ground := Ground.textOnly Departure.lateStores }, { on := 2, ground := Ground.textOnly Departure.lateStores }, { on := 3, ground := Ground.textOnly Departure.lateStores }, { on := 4, ground := Ground.textOnly Departure.lateStores }], guard := none }) (v := ?v10x3) rfl (by kernel_rfl) (by kernel_rfl) (by kernel_rfl) (fun _ _ _ h => h) (Or.inl ⟨by rfl, ?y10x3⟩) hn ?r10x3
  case y10x3 => (intro wS hS; (try go_simp); (try with_reducible rfl))
  try simp only [Act.put, List.setIfInBounds_toArray, List.set_cons_zero, List.set_cons_succ]
  refine wpAnyH_ready (rs := [0]) (by kernel_rfl) (by simp) ?_
  refine AllReadyH.cons (o := { dst := some 41, op := Op.buildSlice 62 14 #[(0, Operand.const (Value.int IntKind.i64 16)), (1, Operand.const (Value.int IntKind.i64 16)), (2, Operand.const (Value.int IntKind.i64 16)), (3, Operand.const (Value.int IntKind.i64 8)), (4, Operand.const (Value.int IntKind.i64 8)), (5, Operand.const (Value.int IntKind.i64 8)), (6, Operand.const (Value.int IntKind.i64 4)), (7, Operand.const (Value.int IntKind.i64 4)), (8, Operand.const (Value.int IntKind.i64 2)), (9, Operand.const (Value.int IntKind.i64 2)), (10, Operand.const (Value.int IntKind.i64 4)), (11, Operand.const (Value.int IntKind.i64 4)), (12, Operand.const (Value.int IntKind.i64 2)), (13, Operand.const (Value.int IntKind.i64 2))], type := 62, pos := "ref.go:89", after := #[{ on := 5, ground := Ground.gcOnly Departure.lateStores }], guard := none }) rfl (fun K hK => ?_) AllReadyH.nil
  go_simp
  refine hK.out _ _ (by first | exact hn | exact Upd.alloc hn _) (fun hn => ?_)
  clear hK K
  try simp only [Act.put, List.setIfInBounds_toArray, List.set_cons_zero, List.set_cons_succ]
  refine wpAnyH_take (i := 3) (oi := { dst := some 44, op := Op.indexAddr 62 (Operand.tmp 41) (Operand.tmp 43), type := 0, pos := "ref.go:89", after := #[{ on := 0, ground := Ground.data }, { on := 2, ground := Ground.data }, { on := 5, ground := Ground.gcOnly Departure.lateStores }], guard := none }) (v := ?v10x4) rfl (by kernel_rfl) (by kernel_rfl) (by kernel_rfl) (fun _ _ _ h => h) (Or.inl ⟨by rfl, ?y10x4⟩) hn ?r10x4
  case y10x4 => (intro wS hS; (try go_simp); (try with_reducible rfl))
  try simp only [Act.put, List.setIfInBounds_toArray, List.set_cons_zero, List.set_cons_succ]
  refine wpAnyH_ready (rs := [4]) (by kernel_rfl) (by simp) ?_
  refine AllReadyH.cons (o := { dst := some 45, op := Op.load 3 (Operand.tmp 44), type := 3, pos := "ref.go:89", after := #[{ on := 3, ground := Ground.data }, { on := 5, ground := Ground.gcOnly Departure.lateStores }], guard := none }) rfl (fun K hK => ?_) AllReadyH.nil
  go_simp
  refine hK.out _ _ (by first | exact hn | exact Upd.alloc hn _) (fun hn => ?_)
  clear hK K
  try simp only [Act.put, List.setIfInBounds_toArray, List.set_cons_zero, List.set_cons_succ]
  refine wpAnyH_take (i := 6) (oi := { dst := some 3, op := Op.assign (Operand.tmp 45), type := 3, pos := "ref.go:89", after := #[{ on := 4, ground := Ground.data }, { on := 5, ground := Ground.chain }, { on := 0, ground := Ground.phase }, { on := 1, ground := Ground.phase }, { on := 2, ground := Ground.phase }, { on := 3, ground := Ground.phase }, { on := 4, ground := Ground.phase }, { on := 5, ground := Ground.phase }], guard := none }) (v := ?v10x5) rfl (by kernel_rfl) (by kernel_rfl) (by kernel_rfl) (fun _ _ _ h => h) (Or.inl ⟨by rfl, ?y10x5⟩) hn ?r10x5
  case y10x5 => (intro wS hS; (try go_simp); (try with_reducible rfl))
  try simp only [Act.put, List.setIfInBounds_toArray, List.set_cons_zero, List.set_cons_succ]
  refine wpAnyH_done (by kernel_rfl) ?_ _
  refine NoPanic.normal ?_
  go_wp2_with fail
  go_ret2
  exact ⟨rfl, hn⟩
theorem rvector_26 (w : World) : Calls Try.prog 86 #[.int .i64 26] w (VecP (rvectorV 26) w) := by
  have e0 : IntKind.i64.wrap 0 = 0 := by decide
  have e1 : IntKind.i64.wrap 1 = 1 := by decide
  have e2 : IntKind.i64.wrap 2 = 2 := by decide
  have e3 : IntKind.i64.wrap 3 = 3 := by decide
  have e4 : IntKind.i64.wrap 4 = 4 := by decide
  have e5 : IntKind.i64.wrap 5 = 5 := by decide
  have e6 : IntKind.i64.wrap 6 = 6 := by decide
  have e7 : IntKind.i64.wrap 7 = 7 := by decide
  have e8 : IntKind.i64.wrap 8 = 8 := by decide
  have e9 : IntKind.i64.wrap 9 = 9 := by decide
  have e10 : IntKind.i64.wrap 10 = 10 := by decide
  have e11 : IntKind.i64.wrap 11 = 11 := by decide
  have e12 : IntKind.i64.wrap 12 = 12 := by decide
  have e13 : IntKind.i64.wrap 13 = 13 := by decide
  go_enter Try.func86, Try.ntmps86
  go_wp2_with fail
  have hn : New w w.drew := (Upd.refl _ _).drew
  refine wp_region_noPanic ?_
  refine wp_region_held_drew (S := (New w)) (by kernel_rfl) (by first | exact hn | exact (Upd.refl _ _).drew | exact Upd.drew (by assumption)) (fun hn => ?_)
  refine wpAnyH_take (i := 1) (oi := { dst := some 42, op := Op.move (Operand.tmp 0), type := 3, pos := "ref.go:89", after := #[{ on := 5, ground := Ground.gcOnly Departure.lateStores }], guard := none }) (v := ?v11x1) rfl (by kernel_rfl) (by kernel_rfl) (by kernel_rfl) (fun _ _ _ h => h) (Or.inl ⟨by rfl, ?y11x1⟩) hn ?r11x1
  case y11x1 => (intro wS hS; (try go_simp); (try with_reducible rfl))
  try simp only [Act.put, List.setIfInBounds_toArray, List.set_cons_zero, List.set_cons_succ]
  refine wpAnyH_take (i := 2) (oi := { dst := some 43, op := Op.binOp BinOp.sub 3 (Operand.tmp 42) (Operand.const (Value.int IntKind.i64 21)) 3, type := 3, pos := "ref.go:89", after := #[{ on := 1, ground := Ground.data }, { on := 5, ground := Ground.gcOnly Departure.lateStores }], guard := none }) (v := ?v11x2) rfl (by kernel_rfl) (by kernel_rfl) (by kernel_rfl) (fun _ _ _ h => h) (Or.inl ⟨by rfl, ?y11x2⟩) hn ?r11x2
  case y11x2 => (intro wS hS; (try go_simp); (try with_reducible rfl))
  try simp only [Act.put, List.setIfInBounds_toArray, List.set_cons_zero, List.set_cons_succ]
  refine wpAnyH_take (i := 5) (oi := { dst := some 2, op := Op.assign (Operand.const (Value.int IntKind.i64 15)), type := 3, pos := "ref.go:89", after := #[{ on := 0, ground := Ground.textOnly Departure.lateStores }, { on := 1, ground := Ground.textOnly Departure.lateStores }, { on := 2, ground := Ground.textOnly Departure.lateStores }, { on := 3, ground := Ground.textOnly Departure.lateStores }, { on := 4, ground := Ground.textOnly Departure.lateStores }], guard := none }) (v := ?v11x3) rfl (by kernel_rfl) (by kernel_rfl) (by kernel_rfl) (fun _ _ _ h => h) (Or.inl ⟨by rfl, ?y11x3⟩) hn ?r11x3
  case y11x3 => (intro wS hS; (try go_simp); (try with_reducible rfl))
  try simp only [Act.put, List.setIfInBounds_toArray, List.set_cons_zero, List.set_cons_succ]
  refine wpAnyH_ready (rs := [0]) (by kernel_rfl) (by simp) ?_
  refine AllReadyH.cons (o := { dst := some 41, op := Op.buildSlice 62 14 #[(0, Operand.const (Value.int IntKind.i64 16)), (1, Operand.const (Value.int IntKind.i64 16)), (2, Operand.const (Value.int IntKind.i64 16)), (3, Operand.const (Value.int IntKind.i64 8)), (4, Operand.const (Value.int IntKind.i64 8)), (5, Operand.const (Value.int IntKind.i64 8)), (6, Operand.const (Value.int IntKind.i64 4)), (7, Operand.const (Value.int IntKind.i64 4)), (8, Operand.const (Value.int IntKind.i64 2)), (9, Operand.const (Value.int IntKind.i64 2)), (10, Operand.const (Value.int IntKind.i64 4)), (11, Operand.const (Value.int IntKind.i64 4)), (12, Operand.const (Value.int IntKind.i64 2)), (13, Operand.const (Value.int IntKind.i64 2))], type := 62, pos := "ref.go:89", after := #[{ on := 5, ground := Ground.gcOnly Departure.lateStores }], guard := none }) rfl (fun K hK => ?_) AllReadyH.nil
  go_simp
  refine hK.out _ _ (by first | exact hn | exact Upd.alloc hn _) (fun hn => ?_)
  clear hK K
  try simp only [Act.put, List.setIfInBounds_toArray, List.set_cons_zero, List.set_cons_succ]
  refine wpAnyH_take (i := 3) (oi := { dst := some 44, op := Op.indexAddr 62 (Operand.tmp 41) (Operand.tmp 43), type := 0, pos := "ref.go:89", after := #[{ on := 0, ground := Ground.data }, { on := 2, ground := Ground.data }, { on := 5, ground := Ground.gcOnly Departure.lateStores }], guard := none }) (v := ?v11x4) rfl (by kernel_rfl) (by kernel_rfl) (by kernel_rfl) (fun _ _ _ h => h) (Or.inl ⟨by rfl, ?y11x4⟩) hn ?r11x4
  case y11x4 => (intro wS hS; (try go_simp); (try with_reducible rfl))
  try simp only [Act.put, List.setIfInBounds_toArray, List.set_cons_zero, List.set_cons_succ]
  refine wpAnyH_ready (rs := [4]) (by kernel_rfl) (by simp) ?_
  refine AllReadyH.cons (o := { dst := some 45, op := Op.load 3 (Operand.tmp 44), type := 3, pos := "ref.go:89", after := #[{ on := 3, ground := Ground.data }, { on := 5, ground := Ground.gcOnly Departure.lateStores }], guard := none }) rfl (fun K hK => ?_) AllReadyH.nil
  go_simp
  refine hK.out _ _ (by first | exact hn | exact Upd.alloc hn _) (fun hn => ?_)
  clear hK K
  try simp only [Act.put, List.setIfInBounds_toArray, List.set_cons_zero, List.set_cons_succ]
  refine wpAnyH_take (i := 6) (oi := { dst := some 3, op := Op.assign (Operand.tmp 45), type := 3, pos := "ref.go:89", after := #[{ on := 4, ground := Ground.data }, { on := 5, ground := Ground.chain }, { on := 0, ground := Ground.phase }, { on := 1, ground := Ground.phase }, { on := 2, ground := Ground.phase }, { on := 3, ground := Ground.phase }, { on := 4, ground := Ground.phase }, { on := 5, ground := Ground.phase }], guard := none }) (v := ?v11x5) rfl (by kernel_rfl) (by kernel_rfl) (by kernel_rfl) (fun _ _ _ h => h) (Or.inl ⟨by rfl, ?y11x5⟩) hn ?r11x5
  case y11x5 => (intro wS hS; (try go_simp); (try with_reducible rfl))
  try simp only [Act.put, List.setIfInBounds_toArray, List.set_cons_zero, List.set_cons_succ]
  refine wpAnyH_done (by kernel_rfl) ?_ _
  refine NoPanic.normal ?_
  go_wp2_with fail
  go_ret2
  exact ⟨rfl, hn⟩
theorem rvector_27 (w : World) : Calls Try.prog 86 #[.int .i64 27] w (VecP (rvectorV 27) w) := by
  have e0 : IntKind.i64.wrap 0 = 0 := by decide
  have e1 : IntKind.i64.wrap 1 = 1 := by decide
  have e2 : IntKind.i64.wrap 2 = 2 := by decide
  have e3 : IntKind.i64.wrap 3 = 3 := by decide
  have e4 : IntKind.i64.wrap 4 = 4 := by decide
  have e5 : IntKind.i64.wrap 5 = 5 := by decide
  have e6 : IntKind.i64.wrap 6 = 6 := by decide
  have e7 : IntKind.i64.wrap 7 = 7 := by decide
  have e8 : IntKind.i64.wrap 8 = 8 := by decide
  have e9 : IntKind.i64.wrap 9 = 9 := by decide
  have e10 : IntKind.i64.wrap 10 = 10 := by decide
  have e11 : IntKind.i64.wrap 11 = 11 := by decide
  have e12 : IntKind.i64.wrap 12 = 12 := by decide
  have e13 : IntKind.i64.wrap 13 = 13 := by decide
  go_enter Try.func86, Try.ntmps86
  go_wp2_with fail
  have hn : New w w.drew := (Upd.refl _ _).drew
  refine wp_region_noPanic ?_
  refine wp_region_held_drew (S := (New w)) (by kernel_rfl) (by first | exact hn | exact (Upd.refl _ _).drew | exact Upd.drew (by assumption)) (fun hn => ?_)
  refine wpAnyH_take (i := 1) (oi := { dst := some 42, op := Op.move (Operand.tmp 0), type := 3, pos := "ref.go:89", after := #[{ on := 5, ground := Ground.gcOnly Departure.lateStores }], guard := none }) (v := ?v12x1) rfl (by kernel_rfl) (by kernel_rfl) (by kernel_rfl) (fun _ _ _ h => h) (Or.inl ⟨by rfl, ?y12x1⟩) hn ?r12x1
  case y12x1 => (intro wS hS; (try go_simp); (try with_reducible rfl))
  try simp only [Act.put, List.setIfInBounds_toArray, List.set_cons_zero, List.set_cons_succ]
  refine wpAnyH_take (i := 2) (oi := { dst := some 43, op := Op.binOp BinOp.sub 3 (Operand.tmp 42) (Operand.const (Value.int IntKind.i64 21)) 3, type := 3, pos := "ref.go:89", after := #[{ on := 1, ground := Ground.data }, { on := 5, ground := Ground.gcOnly Departure.lateStores }], guard := none }) (v := ?v12x2) rfl (by kernel_rfl) (by kernel_rfl) (by kernel_rfl) (fun _ _ _ h => h) (Or.inl ⟨by rfl, ?y12x2⟩) hn ?r12x2
  case y12x2 => (intro wS hS; (try go_simp); (try with_reducible rfl))
  try simp only [Act.put, List.setIfInBounds_toArray, List.set_cons_zero, List.set_cons_succ]
  refine wpAnyH_take (i := 5) (oi := { dst := some 2, op := Op.assign (Operand.const (Value.int IntKind.i64 15)), type := 3, pos := "ref.go:89", after := #[{ on := 0, ground := Ground.textOnly Departure.lateStores }, { on := 1, ground := Ground.textOnly Departure.lateStores }, { on := 2, ground := Ground.textOnly Departure.lateStores }, { on := 3, ground := Ground.textOnly Departure.lateStores }, { on := 4, ground := Ground.textOnly Departure.lateStores }], guard := none }) (v := ?v12x3) rfl (by kernel_rfl) (by kernel_rfl) (by kernel_rfl) (fun _ _ _ h => h) (Or.inl ⟨by rfl, ?y12x3⟩) hn ?r12x3
  case y12x3 => (intro wS hS; (try go_simp); (try with_reducible rfl))
  try simp only [Act.put, List.setIfInBounds_toArray, List.set_cons_zero, List.set_cons_succ]
  refine wpAnyH_ready (rs := [0]) (by kernel_rfl) (by simp) ?_
  refine AllReadyH.cons (o := { dst := some 41, op := Op.buildSlice 62 14 #[(0, Operand.const (Value.int IntKind.i64 16)), (1, Operand.const (Value.int IntKind.i64 16)), (2, Operand.const (Value.int IntKind.i64 16)), (3, Operand.const (Value.int IntKind.i64 8)), (4, Operand.const (Value.int IntKind.i64 8)), (5, Operand.const (Value.int IntKind.i64 8)), (6, Operand.const (Value.int IntKind.i64 4)), (7, Operand.const (Value.int IntKind.i64 4)), (8, Operand.const (Value.int IntKind.i64 2)), (9, Operand.const (Value.int IntKind.i64 2)), (10, Operand.const (Value.int IntKind.i64 4)), (11, Operand.const (Value.int IntKind.i64 4)), (12, Operand.const (Value.int IntKind.i64 2)), (13, Operand.const (Value.int IntKind.i64 2))], type := 62, pos := "ref.go:89", after := #[{ on := 5, ground := Ground.gcOnly Departure.lateStores }], guard := none }) rfl (fun K hK => ?_) AllReadyH.nil
  go_simp
  refine hK.out _ _ (by first | exact hn | exact Upd.alloc hn _) (fun hn => ?_)
  clear hK K
  try simp only [Act.put, List.setIfInBounds_toArray, List.set_cons_zero, List.set_cons_succ]
  refine wpAnyH_take (i := 3) (oi := { dst := some 44, op := Op.indexAddr 62 (Operand.tmp 41) (Operand.tmp 43), type := 0, pos := "ref.go:89", after := #[{ on := 0, ground := Ground.data }, { on := 2, ground := Ground.data }, { on := 5, ground := Ground.gcOnly Departure.lateStores }], guard := none }) (v := ?v12x4) rfl (by kernel_rfl) (by kernel_rfl) (by kernel_rfl) (fun _ _ _ h => h) (Or.inl ⟨by rfl, ?y12x4⟩) hn ?r12x4
  case y12x4 => (intro wS hS; (try go_simp); (try with_reducible rfl))
  try simp only [Act.put, List.setIfInBounds_toArray, List.set_cons_zero, List.set_cons_succ]
  refine wpAnyH_ready (rs := [4]) (by kernel_rfl) (by simp) ?_
  refine AllReadyH.cons (o := { dst := some 45, op := Op.load 3 (Operand.tmp 44), type := 3, pos := "ref.go:89", after := #[{ on := 3, ground := Ground.data }, { on := 5, ground := Ground.gcOnly Departure.lateStores }], guard := none }) rfl (fun K hK => ?_) AllReadyH.nil
  go_simp
  refine hK.out _ _ (by first | exact hn | exact Upd.alloc hn _) (fun hn => ?_)
  clear hK K
  try simp only [Act.put, List.setIfInBounds_toArray, List.set_cons_zero, List.set_cons_succ]
  refine wpAnyH_take (i := 6) (oi := { dst := some 3, op := Op.assign (Operand.tmp 45), type := 3, pos := "ref.go:89", after := #[{ on := 4, ground := Ground.data }, { on := 5, ground := Ground.chain }, { on := 0, ground := Ground.phase }, { on := 1, ground := Ground.phase }, { on := 2, ground := Ground.phase }, { on := 3, ground := Ground.phase }, { on := 4, ground := Ground.phase }, { on := 5, ground := Ground.phase }], guard := none }) (v := ?v12x5) rfl (by kernel_rfl) (by kernel_rfl) (by kernel_rfl) (fun _ _ _ h => h) (Or.inl ⟨by rfl, ?y12x5⟩) hn ?r12x5
  case y12x5 => (intro wS hS; (try go_simp); (try with_reducible rfl))
  try simp only [Act.put, List.setIfInBounds_toArray, List.set_cons_zero, List.set_cons_succ]
  refine wpAnyH_done (by kernel_rfl) ?_ _
  refine NoPanic.normal ?_
  go_wp2_with fail
  go_ret2
  exact ⟨rfl, hn⟩
theorem rvector_28 (w : World) : Calls Try.prog 86 #[.int .i64 28] w (VecP (rvectorV 28) w) := by
  have e0 : IntKind.i64.wrap 0 = 0 := by decide
  have e1 : IntKind.i64.wrap 1 = 1 := by decide
  have e2 : IntKind.i64.wrap 2 = 2 := by decide
  have e3 : IntKind.i64.wrap 3 = 3 := by decide
  have e4 : IntKind.i64.wrap 4 = 4 := by decide
  have e5 : IntKind.i64.wrap 5 = 5 := by decide
  have e6 : IntKind.i64.wrap 6 = 6 := by decide
  have e7 : IntKind.i64.wrap 7 = 7 := by decide
  have e8 : IntKind.i64.wrap 8 = 8 := by decide
  have e9 : IntKind.i64.wrap 9 = 9 := by decide
  have e10 : IntKind.i64.wrap 10 = 10 := by decide
  have e11 : IntKind.i64.wrap 11 = 11 := by decide
  have e12 : IntKind.i64.wrap 12 = 12 := by decide
  have e13 : IntKind.i64.wrap 13 = 13 := by decide
  go_enter Try.func86, Try.ntmps86
  go_wp2_with fail
  have hn : New w w.drew := (Upd.refl _ _).drew
  refine wp_region_noPanic ?_
  refine wp_region_held_drew (S := (New w)) (by kernel_rfl) (by first | exact hn | exact (Upd.refl _ _).drew | exact Upd.drew (by assumption)) (fun hn => ?_)
  refine wpAnyH_take (i := 1) (oi := { dst := some 42, op := Op.move (Operand.tmp 0), type := 3, pos := "ref.go:89", after := #[{ on := 5, ground := Ground.gcOnly Departure.lateStores }], guard := none }) (v := ?v13x1) rfl (by kernel_rfl) (by kernel_rfl) (by kernel_rfl) (fun _ _ _ h => h) (Or.inl ⟨by rfl, ?y13x1⟩) hn ?r13x1
  case y13x1 => (intro wS hS; (try go_simp); (try with_reducible rfl))
  try simp only [Act.put, List.setIfInBounds_toArray, List.set_cons_zero, List.set_cons_succ]
  refine wpAnyH_take (i := 2) (oi := { dst := some 43, op := Op.binOp BinOp.sub 3 (Operand.tmp 42) (Operand.const (Value.int IntKind.i64 21)) 3, type := 3, pos := "ref.go:89", after := #[{ on := 1, ground := Ground.data }, { on := 5, ground := Ground.gcOnly Departure.lateStores }], guard := none }) (v := ?v13x2) rfl (by kernel_rfl) (by kernel_rfl) (by kernel_rfl) (fun _ _ _ h => h) (Or.inl ⟨by rfl, ?y13x2⟩) hn ?r13x2
  case y13x2 => (intro wS hS; (try go_simp); (try with_reducible rfl))
  try simp only [Act.put, List.setIfInBounds_toArray, List.set_cons_zero, List.set_cons_succ]
  refine wpAnyH_take (i := 5) (oi := { dst := some 2, op := Op.assign (Operand.const (Value.int IntKind.i64 15)), type := 3, pos := "ref.go:89", after := #[{ on := 0, ground := Ground.textOnly Departure.lateStores }, { on := 1, ground := Ground.textOnly Departure.lateStores }, { on := 2, ground := Ground.textOnly Departure.lateStores }, { on := 3, ground := Ground.textOnly Departure.lateStores }, { on := 4, ground := Ground.textOnly Departure.lateStores }], guard := none }) (v := ?v13x3) rfl (by kernel_rfl) (by kernel_rfl) (by kernel_rfl) (fun _ _ _ h => h) (Or.inl ⟨by rfl, ?y13x3⟩) hn ?r13x3
  case y13x3 => (intro wS hS; (try go_simp); (try with_reducible rfl))
  try simp only [Act.put, List.setIfInBounds_toArray, List.set_cons_zero, List.set_cons_succ]
  refine wpAnyH_ready (rs := [0]) (by kernel_rfl) (by simp) ?_
  refine AllReadyH.cons (o := { dst := some 41, op := Op.buildSlice 62 14 #[(0, Operand.const (Value.int IntKind.i64 16)), (1, Operand.const (Value.int IntKind.i64 16)), (2, Operand.const (Value.int IntKind.i64 16)), (3, Operand.const (Value.int IntKind.i64 8)), (4, Operand.const (Value.int IntKind.i64 8)), (5, Operand.const (Value.int IntKind.i64 8)), (6, Operand.const (Value.int IntKind.i64 4)), (7, Operand.const (Value.int IntKind.i64 4)), (8, Operand.const (Value.int IntKind.i64 2)), (9, Operand.const (Value.int IntKind.i64 2)), (10, Operand.const (Value.int IntKind.i64 4)), (11, Operand.const (Value.int IntKind.i64 4)), (12, Operand.const (Value.int IntKind.i64 2)), (13, Operand.const (Value.int IntKind.i64 2))], type := 62, pos := "ref.go:89", after := #[{ on := 5, ground := Ground.gcOnly Departure.lateStores }], guard := none }) rfl (fun K hK => ?_) AllReadyH.nil
  go_simp
  refine hK.out _ _ (by first | exact hn | exact Upd.alloc hn _) (fun hn => ?_)
  clear hK K
  try simp only [Act.put, List.setIfInBounds_toArray, List.set_cons_zero, List.set_cons_succ]
  refine wpAnyH_take (i := 3) (oi := { dst := some 44, op := Op.indexAddr 62 (Operand.tmp 41) (Operand.tmp 43), type := 0, pos := "ref.go:89", after := #[{ on := 0, ground := Ground.data }, { on := 2, ground := Ground.data }, { on := 5, ground := Ground.gcOnly Departure.lateStores }], guard := none }) (v := ?v13x4) rfl (by kernel_rfl) (by kernel_rfl) (by kernel_rfl) (fun _ _ _ h => h) (Or.inl ⟨by rfl, ?y13x4⟩) hn ?r13x4
  case y13x4 => (intro wS hS; (try go_simp); (try with_reducible rfl))
  try simp only [Act.put, List.setIfInBounds_toArray, List.set_cons_zero, List.set_cons_succ]
  refine wpAnyH_ready (rs := [4]) (by kernel_rfl) (by simp) ?_
  refine AllReadyH.cons (o := { dst := some 45, op := Op.load 3 (Operand.tmp 44), type := 3, pos := "ref.go:89", after := #[{ on := 3, ground := Ground.data }, { on := 5, ground := Ground.gcOnly Departure.lateStores }], guard := none }) rfl (fun K hK => ?_) AllReadyH.nil
  go_simp
  refine hK.out _ _ (by first | exact hn | exact Upd.alloc hn _) (fun hn => ?_)
  clear hK K
  try simp only [Act.put, List.setIfInBounds_toArray, List.set_cons_zero, List.set_cons_succ]
  refine wpAnyH_take (i := 6) (oi := { dst := some 3, op := Op.assign (Operand.tmp 45), type := 3, pos := "ref.go:89", after := #[{ on := 4, ground := Ground.data }, { on := 5, ground := Ground.chain }, { on := 0, ground := Ground.phase }, { on := 1, ground := Ground.phase }, { on := 2, ground := Ground.phase }, { on := 3, ground := Ground.phase }, { on := 4, ground := Ground.phase }, { on := 5, ground := Ground.phase }], guard := none }) (v := ?v13x5) rfl (by kernel_rfl) (by kernel_rfl) (by kernel_rfl) (fun _ _ _ h => h) (Or.inl ⟨by rfl, ?y13x5⟩) hn ?r13x5
  case y13x5 => (intro wS hS; (try go_simp); (try with_reducible rfl))
  try simp only [Act.put, List.setIfInBounds_toArray, List.set_cons_zero, List.set_cons_succ]
  refine wpAnyH_done (by kernel_rfl) ?_ _
  refine NoPanic.normal ?_
  go_wp2_with fail
  go_ret2
  exact ⟨rfl, hn⟩
theorem rvector_29 (w : World) : Calls Try.prog 86 #[.int .i64 29] w (VecP (rvectorV 29) w) := by
  have e0 : IntKind.i64.wrap 0 = 0 := by decide
  have e1 : IntKind.i64.wrap 1 = 1 := by decide
  have e2 : IntKind.i64.wrap 2 = 2 := by decide
  have e3 : IntKind.i64.wrap 3 = 3 := by decide
  have e4 : IntKind.i64.wrap 4 = 4 := by decide
  have e5 : IntKind.i64.wrap 5 = 5 := by decide
  have e6 : IntKind.i64.wrap 6 = 6 := by decide
  have e7 : IntKind.i64.wrap 7 = 7 := by decide
  have e8 : IntKind.i64.wrap 8 = 8 := by decide
  have e9 : IntKind.i64.wrap 9 = 9 := by decide
  have e10 : IntKind.i64.wrap 10 = 10 := by decide
  have e11 : IntKind.i64.wrap 11 = 11 := by decide
  have e12 : IntKind.i64.wrap 12 = 12 := by decide
  have e13 : IntKind.i64.wrap 13 = 13 := by decide
  go_enter Try.func86, Try.ntmps86
  go_wp2_with fail
  have hn : New w w.drew := (Upd.refl _ _).drew
  refine wp_region_noPanic ?_
  refine wp_region_held_drew (S := (New w)) (by kernel_rfl) (by first | exact hn | exact (Upd.refl _ _).drew | exact Upd.drew (by assumption)) (fun hn => ?_)
  refine wpAnyH_take (i := 1) (oi := { dst := some 42, op := Op.move (Operand.tmp 0), type := 3, pos := "ref.go:89", after := #[{ on := 5, ground := Ground.gcOnly Departure.lateStores }], guard := none }) (v := ?v14x1) rfl (by kernel_rfl) (by kernel_rfl) (by kernel_rfl) (fun _ _ _ h => h) (Or.inl ⟨by rfl, ?y14x1⟩) hn ?r14x1
  case y14x1 => (intro wS hS; (try go_simp); (try with_reducible rfl))
  try simp only [Act.put, List.setIfInBounds_toArray, List.set_cons_zero, List.set_cons_succ]
  refine wpAnyH_take (i := 2) (oi := { dst := some 43, op := Op.binOp BinOp.sub 3 (Operand.tmp 42) (Operand.const (Value.int IntKind.i64 21)) 3, type := 3, pos := "ref.go:89", after := #[{ on := 1, ground := Ground.data }, { on := 5, ground := Ground.gcOnly Departure.lateStores }], guard := none }) (v := ?v14x2) rfl (by kernel_rfl) (by kernel_rfl) (by kernel_rfl) (fun _ _ _ h => h) (Or.inl ⟨by rfl, ?y14x2⟩) hn ?r14x2
  case y14x2 => (intro wS hS; (try go_simp); (try with_reducible rfl))
  try simp only [Act.put, List.setIfInBounds_toArray, List.set_cons_zero, List.set_cons_succ]
  refine wpAnyH_take (i := 5) (oi := { dst := some 2, op := Op.assign (Operand.const (Value.int IntKind.i64 15)), type := 3, pos := "ref.go:89", after := #[{ on := 0, ground := Ground.textOnly Departure.lateStores }, { on := 1, ground := Ground.textOnly Departure.lateStores }, { on := 2, ground := Ground.textOnly Departure.lateStores }, { on := 3, ground := Ground.textOnly Departure.lateStores }, { on := 4, ground := Ground.textOnly Departure.lateStores }], guard := none }) (v := ?v14x3) rfl (by kernel_rfl) (by kernel_rfl) (by kernel_rfl) (fun _ _ _ h => h) (Or.inl ⟨by rfl, ?y14x3⟩) hn ?r14x3
  case y14x3 => (intro wS hS; (try go_simp); (try with_reducible rfl))
  try simp only [Act.put, List.setIfInBounds_toArray, List.set_cons_zero, List.set_cons_succ]
  refine wpAnyH_ready (rs := [0]) (by kernel_rfl) (by simp) ?_
  refine AllReadyH.cons (o := { dst := some 41, op := Op.buildSlice 62 14 #[(0, Operand.const (Value.int IntKind.i64 16)), (1, Operand.const (Value.int IntKind.i64 16)), (2, Operand.const (Value.int IntKind.i64 16)), (3, Operand.const (Value.int IntKind.i64 8)), (4, Operand.const (Value.int IntKind.i64 8)), (5, Operand.const (Value.int IntKind.i64 8)), (6, Operand.const (Value.int IntKind.i64 4)), (7, Operand.const (Value.int IntKind.i64 4)), (8, Operand.const (Value.int IntKind.i64 2)), (9, Operand.const (Value.int IntKind.i64 2)), (10, Operand.const (Value.int IntKind.i64 4)), (11, Operand.const (Value.int IntKind.i64 4)), (12, Operand.const (Value.int IntKind.i64 2)), (13, Operand.const (Value.int IntKind.i64 2))], type := 62, pos := "ref.go:89", after := #[{ on := 5, ground := Ground.gcOnly Departure.lateStores }], guard := none }) rfl (fun K hK => ?_) AllReadyH.nil
  go_simp
  refine hK.out _ _ (by first | exact hn | exact Upd.alloc hn _) (fun hn => ?_)
  clear hK K
  try simp only [Act.put, List.setIfInBounds_toArray, List.set_cons_zero, List.set_cons_succ]
  refine wpAnyH_take (i := 3) (oi := { dst := some 44, op := Op.indexAddr 62 (Operand.tmp 41) (Operand.tmp 43), type := 0, pos := "ref.go:89", after := #[{ on := 0, ground := Ground.data }, { on := 2, ground := Ground.data }, { on := 5, ground := Ground.gcOnly Departure.lateStores }], guard := none }) (v := ?v14x4) rfl (by kernel_rfl) (by kernel_rfl) (by kernel_rfl) (fun _ _ _ h => h) (Or.inl ⟨by rfl, ?y14x4⟩) hn ?r14x4
  case y14x4 => (intro wS hS; (try go_simp); (try with_reducible rfl))
  try simp only [Act.put, List.setIfInBounds_toArray, List.set_cons_zero, List.set_cons_succ]
  refine wpAnyH_ready (rs := [4]) (by kernel_rfl) (by simp) ?_
  refine AllReadyH.cons (o := { dst := some 45, op := Op.load 3 (Operand.tmp 44), type := 3, pos := "ref.go:89", after := #[{ on := 3, ground := Ground.data }, { on := 5, ground := Ground.gcOnly Departure.lateStores }], guard := none }) rfl (fun K hK => ?_) AllReadyH.nil
  go_simp
  refine hK.out _ _ (by first | exact hn | exact Upd.alloc hn _) (fun hn => ?_)
  clear hK K
  try simp only [Act.put, List.setIfInBounds_toArray, List.set_cons_zero, List.set_cons_succ]
  refine wpAnyH_take (i := 6) (oi := { dst := some 3, op := Op.assign (Operand.tmp 45), type := 3, pos := "ref.go:89", after := #[{ on := 4, ground := Ground.data }, { on := 5, ground := Ground.chain }, { on := 0, ground := Ground.phase }, { on := 1, ground := Ground.phase }, { on := 2, ground := Ground.phase }, { on := 3, ground := Ground.phase }, { on := 4, ground := Ground.phase }, { on := 5, ground := Ground.phase }], guard := none }) (v := ?v14x5) rfl (by kernel_rfl) (by kernel_rfl) (by kernel_rfl) (fun _ _ _ h => h) (Or.inl ⟨by rfl, ?y14x5⟩) hn ?r14x5
  case y14x5 => (intro wS hS; (try go_simp); (try with_reducible rfl))
  try simp only [Act.put, List.setIfInBounds_toArray, List.set_cons_zero, List.set_cons_succ]
  refine wpAnyH_done (by kernel_rfl) ?_ _
  refine NoPanic.normal ?_
  go_wp2_with fail
  go_ret2
  exact ⟨rfl, hn⟩
theorem rvector_30 (w : World) : Calls Try.prog 86 #[.int .i64 30] w (VecP (rvectorV 30) w) := by
  have e0 : IntKind.i64.wrap 0 = 0 := by decide
  have e1 : IntKind.i64.wrap 1 = 1 := by decide
  have e2 : IntKind.i64.wrap 2 = 2 := by decide
  have e3 : IntKind.i64.wrap 3 = 3 := by decide
  have e4 : IntKind.i64.wrap 4 = 4 := by decide
  have e5 : IntKind.i64.wrap 5 = 5 := by decide
  have e6 : IntKind.i64.wrap 6 = 6 := by decide
  have e7 : IntKind.i64.wrap 7 = 7 := by decide
  have e8 : IntKind.i64.wrap 8 = 8 := by decide
  have e9 : IntKind.i64.wrap 9 = 9 := by decide
  have e10 : IntKind.i64.wrap 10 = 10 := by decide
  have e11 : IntKind.i64.wrap 11 = 11 := by decide
  have e12 : IntKind.i64.wrap 12 = 12 := by decide
  have e13 : IntKind.i64.wrap 13 = 13 := by decide
  go_enter Try.func86, Try.ntmps86
  go_wp2_with fail
  have hn : New w w.drew := (Upd.refl _ _).drew
  refine wp_region_noPanic ?_
  refine wp_region_held_drew (S := (New w)) (by kernel_rfl) (by first | exact hn | exact (Upd.refl _ _).drew | exact Upd.drew (by assumption)) (fun hn => ?_)
  refine wpAnyH_take (i := 1) (oi := { dst := some 42, op := Op.move (Operand.tmp 0), type := 3, pos := "ref.go:89", after := #[{ on := 5, ground := Ground.gcOnly Departure.lateStores }], guard := none }) (v := ?v15x1) rfl (by kernel_rfl) (by kernel_rfl) (by kernel_rfl) (fun _ _ _ h => h) (Or.inl ⟨by rfl, ?y15x1⟩) hn ?r15x1
  case y15x1 => (intro wS hS; (try go_simp); (try with_reducible rfl))
  try simp only [Act.put, List.setIfInBounds_toArray, List.set_cons_zero, List.set_cons_succ]
  refine wpAnyH_take (i := 2) (oi := { dst := some 43, op := Op.binOp BinOp.sub 3 (Operand.tmp 42) (Operand.const (Value.int IntKind.i64 21)) 3, type := 3, pos := "ref.go:89", after := #[{ on := 1, ground := Ground.data }, { on := 5, ground := Ground.gcOnly Departure.lateStores }], guard := none }) (v := ?v15x2) rfl (by kernel_rfl) (by kernel_rfl) (by kernel_rfl) (fun _ _ _ h => h) (Or.inl ⟨by rfl, ?y15x2⟩) hn ?r15x2
  case y15x2 => (intro wS hS; (try go_simp); (try with_reducible rfl))
  try simp only [Act.put, List.setIfInBounds_toArray, List.set_cons_zero, List.set_cons_succ]
  refine wpAnyH_take (i := 5) (oi := { dst := some 2, op := Op.assign (Operand.const (Value.int IntKind.i64 15)), type := 3, pos := "ref.go:89", after := #[{ on := 0, ground := Ground.textOnly Departure.lateStores }, { on := 1, ground := Ground.textOnly Departure.lateStores }, { on := 2, ground := Ground.textOnly Departure.lateStores }, { on := 3, ground := Ground.textOnly Departure.lateStores }, { on := 4, ground := Ground.textOnly Departure.lateStores }], guard := none }) (v := ?v15x3) rfl (by kernel_rfl) (by kernel_rfl) (by kernel_rfl) (fun _ _ _ h => h) (Or.inl ⟨by rfl, ?y15x3⟩) hn ?r15x3
  case y15x3 => (intro wS hS; (try go_simp); (try with_reducible rfl))
  try simp only [Act.put, List.setIfInBounds_toArray, List.set_cons_zero, List.set_cons_succ]
  refine wpAnyH_ready (rs := [0]) (by kernel_rfl) (by simp) ?_
  refine AllReadyH.cons (o := { dst := some 41, op := Op.buildSlice 62 14 #[(0, Operand.const (Value.int IntKind.i64 16)), (1, Operand.const (Value.int IntKind.i64 16)), (2, Operand.const (Value.int IntKind.i64 16)), (3, Operand.const (Value.int IntKind.i64 8)), (4, Operand.const (Value.int IntKind.i64 8)), (5, Operand.const (Value.int IntKind.i64 8)), (6, Operand.const (Value.int IntKind.i64 4)), (7, Operand.const (Value.int IntKind.i64 4)), (8, Operand.const (Value.int IntKind.i64 2)), (9, Operand.const (Value.int IntKind.i64 2)), (10, Operand.const (Value.int IntKind.i64 4)), (11, Operand.const (Value.int IntKind.i64 4)), (12, Operand.const (Value.int IntKind.i64 2)), (13, Operand.const (Value.int IntKind.i64 2))], type := 62, pos := "ref.go:89", after := #[{ on := 5, ground := Ground.gcOnly Departure.lateStores }], guard := none }) rfl (fun K hK => ?_) AllReadyH.nil
  go_simp
  refine hK.out _ _ (by first | exact hn | exact Upd.alloc hn _) (fun hn => ?_)
  clear hK K
  try simp only [Act.put, List.setIfInBounds_toArray, List.set_cons_zero, List.set_cons_succ]
  refine wpAnyH_take (i := 3) (oi := { dst := some 44, op := Op.indexAddr 62 (Operand.tmp 41) (Operand.tmp 43), type := 0, pos := "ref.go:89", after := #[{ on := 0, ground := Ground.data }, { on := 2, ground := Ground.data }, { on := 5, ground := Ground.gcOnly Departure.lateStores }], guard := none }) (v := ?v15x4) rfl (by kernel_rfl) (by kernel_rfl) (by kernel_rfl) (fun _ _ _ h => h) (Or.inl ⟨by rfl, ?y15x4⟩) hn ?r15x4
  case y15x4 => (intro wS hS; (try go_simp); (try with_reducible rfl))
  try simp only [Act.put, List.setIfInBounds_toArray, List.set_cons_zero, List.set_cons_succ]
  refine wpAnyH_ready (rs := [4]) (by kernel_rfl) (by simp) ?_
  refine AllReadyH.cons (o := { dst := some 45, op := Op.load 3 (Operand.tmp 44), type := 3, pos := "ref.go:89", after := #[{ on := 3, ground := Ground.data }, { on := 5, ground := Ground.gcOnly Departure.lateStores }], guard := none }) rfl (fun K hK => ?_) AllReadyH.nil
  go_simp
  refine hK.out _ _ (by first | exact hn | exact Upd.alloc hn _) (fun hn => ?_)
  clear hK K
  try simp only [Act.put, List.setIfInBounds_toArray, List.set_cons_zero, List.set_cons_succ]
  refine wpAnyH_take (i := 6) (oi := { dst := some 3, op := Op.assign (Operand.tmp 45), type := 3, pos := "ref.go:89", after := #[{ on := 4, ground := Ground.data }, { on := 5, ground := Ground.chain }, { on := 0, ground := Ground.phase }, { on := 1, ground := Ground.phase }, { on := 2, ground := Ground.phase }, { on := 3, ground := Ground.phase }, { on := 4, ground := Ground.phase }, { on := 5, ground := Ground.phase }], guard := none }) (v := ?v15x5) rfl (by kernel_rfl) (by kernel_rfl) (by kernel_rfl) (fun _ _ _ h => h) (Or.inl ⟨by rfl, ?y15x5⟩) hn ?r15x5
  case y15x5 => (intro wS hS; (try go_simp); (try with_reducible rfl))
  try simp only [Act.put, List.setIfInBounds_toArray, List.set_cons_zero, List.set_cons_succ]
  refine wpAnyH_done (by kernel_rfl) ?_ _
  refine NoPanic.normal ?_
  go_wp2_with fail
  go_ret2
  exact ⟨rfl, hn⟩
theorem rvector_31 (w : World) : Calls Try.prog 86 #[.int .i64 31] w (VecP (rvectorV 31) w) := by
  have e0 : IntKind.i64.wrap 0 = 0 := by decide
  have e1 : IntKind.i64.wrap 1 = 1 := by decide
  have e2 : IntKind.i64.wrap 2 = 2 := by decide
  have e3 : IntKind.i64.wrap 3 = 3 := by decide
  have e4 : IntKind.i64.wrap 4 = 4 := by decide
  have e5 : IntKind.i64.wrap 5 = 5 := by decide
  have e6 : IntKind.i64.wrap 6 = 6 := by decide
  have e7 : IntKind.i64.wrap 7 = 7 := by decide
  have e8 : IntKind.i64.wrap 8 = 8 := by decide
  have e9 : IntKind.i64.wrap 9 = 9 := by decide
  have e10 : IntKind.i64.wrap 10 = 10 := by decide
  have e11 : IntKind.i64.wrap 11 = 11 := by decide
  have e12 : IntKind.i64.wrap 12 = 12 := by decide
  have e13 : IntKind.i64.wrap 13 = 13 := by decide
  go_enter Try.func86, Try.ntmps86
  go_wp2_with fail
  have hn : New w w.drew := (Upd.refl _ _).drew
  refine wp_region_noPanic ?_
  refine wp_region_held_drew (S := (New w)) (by kernel_rfl) (by first | exact hn | exact (Upd.refl _ _).drew | exact Upd.drew (by assumption)) (fun hn => ?_)
  refine wpAnyH_take (i := 1) (oi := { dst := some 42, op := Op.move (Operand.tmp 0), type := 3, pos := "ref.go:89", after := #[{ on := 5, ground := Ground.gcOnly Departure.lateStores }], guard := none }) (v := ?v16x1) rfl (by kernel_rfl) (by kernel_rfl) (by kernel_rfl) (fun _ _ _ h => h) (Or.inl ⟨by rfl, ?y16x1⟩) hn ?r16x1
  case y16x1 => (intro wS hS; (try go_simp); (try with_reducible rfl))
  try simp only [Act.put, List.setIfInBounds_toArray, List.set_cons_zero, List.set_cons_succ]
  refine wpAnyH_take (i := 2) (oi := { dst := some 43, op := Op.binOp BinOp.sub 3 (Operand.tmp 42) (Operand.const (Value.int IntKind.i64 21)) 3, type := 3, pos := "ref.go:89", after := #[{ on := 1, ground := Ground.data }, { on := 5, ground := Ground.gcOnly Departure.lateStores }], guard := none }) (v := ?v16x2) rfl (by kernel_rfl) (by kernel_rfl) (by kernel_rfl) (fun _ _ _ h => h) (Or.inl ⟨by rfl, ?y16x2⟩) hn ?r16x2
  case y16x2 => (intro wS hS; (try go_simp); (try with_reducible rfl))
  try simp only [Act.put, List.setIfInBounds_toArray, List.set_cons_zero, List.set_cons_succ]
  refine wpAnyH_take (i := 5) (oi := { dst := some 2, op := Op.assign (Operand.const (Value.int IntKind.i64 15)), type := 3, pos := "ref.go:89", after := #[{ on := 0, ground := Ground.textOnly Departure.lateStores }, { on := 1, ground := Ground.textOnly Departure.lateStores }, { on := 2, ground := Ground.textOnly Departure.lateStores }, { on := 3, ground := Ground.textOnly Departure.lateStores }, { on := 4, ground := Ground.textOnly Departure.lateStores }], guard := none }) (v := ?v16x3) rfl (by kernel_rfl) (by kernel_rfl) (by kernel_rfl) (fun _ _ _ h => h) (Or.inl ⟨by rfl, ?y16x3⟩) hn ?r16x3
  case y16x3 => (intro wS hS; (try go_simp); (try with_reducible rfl))
  try simp only [Act.put, List.setIfInBounds_toArray, List.set_cons_zero, List.set_cons_succ]
  refine wpAnyH_ready (rs := [0]) (by kernel_rfl) (by simp) ?_
  refine AllReadyH.cons (o := { dst := some 41, op := Op.buildSlice 62 14 #[(0, Operand.const (Value.int IntKind.i64 16)), (1, Operand.const (Value.int IntKind.i64 16)), (2, Operand.const (Value.int IntKind.i64 16)), (3, Operand.const (Value.int IntKind.i64 8)), (4, Operand.const (Value.int IntKind.i64 8)), (5, Operand.const (Value.int IntKind.i64 8)), (6, Operand.const (Value.int IntKind.i64 4)), (7, Operand.const (Value.int IntKind.i64 4)), (8, Operand.const (Value.int IntKind.i64 2)), (9, Operand.const (Value.int IntKind.i64 2)), (10, Operand.const (Value.int IntKind.i64 4)), (11, Operand.const (Value.int IntKind.i64 4)), (12, Operand.const (Value.int IntKind.i64 2)), (13, Operand.const (Value.int IntKind.i64 2))], type := 62, pos := "ref.go:89", after := #[{ on := 5, ground := Ground.gcOnly Departure.lateStores }], guard := none }) rfl (fun K hK => ?_) AllReadyH.nil
  go_simp
  refine hK.out _ _ (by first | exact hn | exact Upd.alloc hn _) (fun hn => ?_)
  clear hK K
  try simp only [Act.put, List.setIfInBounds_toArray, List.set_cons_zero, List.set_cons_succ]
  refine wpAnyH_take (i := 3) (oi := { dst := some 44, op := Op.indexAddr 62 (Operand.tmp 41) (Operand.tmp 43), type := 0, pos := "ref.go:89", after := #[{ on := 0, ground := Ground.data }, { on := 2, ground := Ground.data }, { on := 5, ground := Ground.gcOnly Departure.lateStores }], guard := none }) (v := ?v16x4) rfl (by kernel_rfl) (by kernel_rfl) (by kernel_rfl) (fun _ _ _ h => h) (Or.inl ⟨by rfl, ?y16x4⟩) hn ?r16x4
  case y16x4 => (intro wS hS; (try go_simp); (try with_reducible rfl))
  try simp only [Act.put, List.setIfInBounds_toArray, List.set_cons_zero, List.set_cons_succ]
  refine wpAnyH_ready (rs := [4]) (by kernel_rfl) (by simp) ?_
  refine AllReadyH.cons (o := { dst := some 45, op := Op.load 3 (Operand.tmp 44), type := 3, pos := "ref.go:89", after := #[{ on := 3, ground := Ground.data }, { on := 5, ground := Ground.gcOnly Departure.lateStores }], guard := none }) rfl (fun K hK => ?_) AllReadyH.nil
  go_simp
  refine hK.out _ _ (by first | exact hn | exact Upd.alloc hn _) (fun hn => ?_)
  clear hK K
  try simp only [Act.put, List.setIfInBounds_toArray, List.set_cons_zero, List.set_cons_succ]
  refine wpAnyH_take (i := 6) (oi := { dst := some 3, op := Op.assign (Operand.tmp 45), type := 3, pos := "ref.go:89", after := #[{ on := 4, ground := Ground.data }, { on := 5, ground := Ground.chain }, { on := 0, ground := Ground.phase }, { on := 1, ground := Ground.phase }, { on := 2, ground := Ground.phase }, { on := 3, ground := Ground.phase }, { on := 4, ground := Ground.phase }, { on := 5, ground := Ground.phase }], guard := none }) (v := ?v16x5) rfl (by kernel_rfl) (by kernel_rfl) (by kernel_rfl) (fun _ _ _ h => h) (Or.inl ⟨by rfl, ?y16x5⟩) hn ?r16x5
  case y16x5 => (intro wS hS; (try go_simp); (try with_reducible rfl))
  try simp only [Act.put, List.setIfInBounds_toArray, List.set_cons_zero, List.set_cons_succ]
  refine wpAnyH_done (by kernel_rfl) ?_ _
  refine NoPanic.normal ?_
  go_wp2_with fail
  go_ret2
  exact ⟨rfl, hn⟩
theorem rvector_32 (w : World) : Calls Try.prog 86 #[.int .i64 32] w (VecP (rvectorV 32) w) := by
  have e0 : IntKind.i64.wrap 0 = 0 := by decide
  have e1 : IntKind.i64.wrap 1 = 1 := by decide
  have e2 : IntKind.i64.wrap 2 = 2 := by decide
  have e3 : IntKind.i64.wrap 3 = 3 := by decide
  have e4 : IntKind.i64.wrap 4 = 4 := by decide
  have e5 : IntKind.i64.wrap 5 = 5 := by decide
  have e6 : IntKind.i64.wrap 6 = 6 := by decide
  have e7 : IntKind.i64.wrap 7 = 7 := by decide
  have e8 : IntKind.i64.wrap 8 = 8 := by decide
  have e9 : IntKind.i64.wrap 9 = 9 := by decide
  have e10 : IntKind.i64.wrap 10 = 10 := by decide
  have e11 : IntKind.i64.wrap 11 = 11 := by decide
  have e12 : IntKind.i64.wrap 12 = 12 := by decide
  have e13 : IntKind.i64.wrap 13 = 13 := by decide
  go_enter Try.func86, Try.ntmps86
  go_wp2_with fail
  have hn : New w w.drew := (Upd.refl _ _).drew
  refine wp_region_noPanic ?_
  refine wp_region_held_drew (S := (New w)) (by kernel_rfl) (by first | exact hn | exact (Upd.refl _ _).drew | exact Upd.drew (by assumption)) (fun hn => ?_)
  refine wpAnyH_take (i := 1) (oi := { dst := some 42, op := Op.move (Operand.tmp 0), type := 3, pos := "ref.go:89", after := #[{ on := 5, ground := Ground.gcOnly Departure.lateStores }], guard := none }) (v := ?v17x1) rfl (by kernel_rfl) (by kernel_rfl) (by kernel_rfl) (fun _ _ _ h => h) (Or.inl ⟨by rfl, ?y17x1⟩) hn ?r17x1
  case y17x1 => (intro wS hS; (try go_simp); (try with_reducible rfl))
  try simp only [Act.put, List.setIfInBounds_toArray, List.set_cons_zero, List.set_cons_succ]
  refine wpAnyH_take (i := 2) (oi := { dst := some 43, op := Op.binOp BinOp.sub 3 (Operand.tmp 42) (Operand.const (Value.int IntKind.i64 21)) 3, type := 3, pos := "ref.go:89", after := #[{ on := 1, ground := Ground.data }, { on := 5, ground := Ground.gcOnly Departure.lateStores }], guard := none }) (v := ?v17x2) rfl (by kernel_rfl) (by kernel_rfl) (by kernel_rfl) (fun _ _ _ h => h) (Or.inl ⟨by rfl, ?y17x2⟩) hn ?r17x2
  case y17x2 => (intro wS hS; (try go_simp); (try with_reducible rfl))
  try simp only [Act.put, List.setIfInBounds_toArray, List.set_cons_zero, List.set_cons_succ]
  refine wpAnyH_take (i := 5) (oi := { dst := some 2, op := Op.assign (Operand.const (Value.int IntKind.i64 15)), type := 3, pos := "ref.go:89", after := #[{ on := 0, ground := Ground.textOnly Departure.lateStores }, { on := 1, ground := Ground.textOnly Departure.lateStores }, { on := 2, ground := Ground.textOnly Departure.lateStores }, { on := 3, ground := Ground.textOnly Departure.lateStores }, { on := 4, ground := Ground.textOnly Departure.lateStores }], guard := none }) (v := ?v17x3) rfl (by kernel_rfl) (by kernel_rfl) (by kernel_rfl) (fun _ _ _ h => h) (Or.inl ⟨by rfl, ?y17x3⟩) hn ?r17x3
  case y17x3 => (intro wS hS; (try go_simp); (try with_reducible rfl))
  try simp only [Act.put, List.setIfInBounds_toArray, List.set_cons_zero, List.set_cons_succ]
  refine wpAnyH_ready (rs := [0]) (by kernel_rfl) (by simp) ?_
  refine AllReadyH.cons (o := { dst := some 41, op := Op.buildSlice 62 14 #[(0, Operand.const (Value.int IntKind.i64 16)), (1, Operand.const (Value.int IntKind.i64 16)), (2, Operand.const (Value.int IntKind.i64 16)), (3, Operand.const (Value.int IntKind.i64 8)), (4, Operand.const (Value.int IntKind.i64 8)), (5, Operand.const (Value.int IntKind.i64 8)), (6, Operand.const (Value.int IntKind.i64 4)), (7, Operand.const (Value.int IntKind.i64 4)), (8, Operand.const (Value.int IntKind.i64 2)), (9, Operand.const (Value.int IntKind.i64 2)), (10, Operand.const (Value.int IntKind.i64 4)), (11, Operand.const (Value.int IntKind.i64 4)), (12, Operand.const (Value.int IntKind.i64 2)), (13, Operand.const (Value.int IntKind.i64 2))], type := 62, pos := "ref.go:89", after := #[{ on := 5, ground := Ground.gcOnly Departure.lateStores }], guard := none }) rfl (fun K hK => ?_) AllReadyH.nil
  go_simp
  refine hK.out _ _ (by first | exact hn | exact Upd.alloc hn _) (fun hn => ?_)
  clear hK K
  try simp only [Act.put, List.setIfInBounds_toArray, List.set_cons_zero, List.set_cons_succ]
  refine wpAnyH_take (i := 3) (oi := { dst := some 44, op := Op.indexAddr 62 (Operand.tmp 41) (Operand.tmp 43), type := 0, pos := "ref.go:89", after := #[{ on := 0, ground := Ground.data }, { on := 2, ground := Ground.data }, { on := 5, ground := Ground.gcOnly Departure.lateStores }], guard := none }) (v := ?v17x4) rfl (by kernel_rfl) (by kernel_rfl) (by kernel_rfl) (fun _ _ _ h => h) (Or.inl ⟨by rfl, ?y17x4⟩) hn ?r17x4
  case y17x4 => (intro wS hS; (try go_simp); (try with_reducible rfl))
  try simp only [Act.put, List.setIfInBounds_toArray, List.set_cons_zero, List.set_cons_succ]
  refine wpAnyH_ready (rs := [4]) (by kernel_rfl) (by simp) ?_
  refine AllReadyH.cons (o := { dst := some 45, op := Op.load 3 (Operand.tmp 44), type := 3, pos := "ref.go:89", after := #[{ on := 3, ground := Ground.data }, { on := 5, ground := Ground.gcOnly Departure.lateStores }], guard := none }) rfl (fun K hK => ?_) AllReadyH.nil
  go_simp
  refine hK.out _ _ (by first | exact hn | exact Upd.alloc hn _) (fun hn => ?_)
  clear hK K
  try simp only [Act.put, List.setIfInBounds_toArray, List.set_cons_zero, List.set_cons_succ]
  refine wpAnyH_take (i := 6) (oi := { dst := some 3, op := Op.assign (Operand.tmp 45), type := 3, pos := "ref.go:89", after := #[{ on := 4, ground := Ground.data }, { on := 5, ground := Ground.chain }, { on := 0, ground := Ground.phase }, { on := 1, ground := Ground.phase }, { on := 2, ground := Ground.phase }, { on := 3, ground := Ground.phase }, { on := 4, ground := Ground.phase }, { on := 5, ground := Ground.phase }], guard := none }) (v := ?v17x5) rfl (by kernel_rfl) (by kernel_rfl) (by kernel_rfl) (fun _ _ _ h => h) (Or.inl ⟨by rfl, ?y17x5⟩) hn ?r17x5
  case y17x5 => (intro wS hS; (try go_simp); (try with_reducible rfl))
  try simp only [Act.put, List.setIfInBounds_toArray, List.set_cons_zero, List.set_cons_succ]
  refine wpAnyH_done (by kernel_rfl) ?_ _
  refine NoPanic.normal ?_
  go_wp2_with fail
  go_ret2
  exact ⟨rfl, hn⟩
theorem rvector_33 (w : World) : Calls Try.prog 86 #[.int .i64 33] w (VecP (rvectorV 33) w) := by
  have e0 : IntKind.i64.wrap 0 = 0 := by decide
  have e1 : IntKind.i64.wrap 1 = 1 := by decide
  have e2 : IntKind.i64.wrap 2 = 2 := by decide
  have e3 : IntKind.i64.wrap 3 = 3 := by decide
  have e4 : IntKind.i64.wrap 4 = 4 := by decide
  have e5 : IntKind.i64.wrap 5 = 5 := by decide
  have e6 : IntKind.i64.wrap 6 = 6 := by decide
  have e7 : IntKind.i64.wrap 7 = 7 := by decide
  have e8 : IntKind.i64.wrap 8 = 8 := by decide
  have e9 : IntKind.i64.wrap 9 = 9 := by decide
  have e10 : IntKind.i64.wrap 10 = 10 := by decide
  have e11 : IntKind.i64.wrap 11 = 11 := by decide
  have e12 : IntKind.i64.wrap 12 = 12 := by decide
  have e13 : IntKind.i64.wrap 13 = 13 := by decide
  go_enter Try.func86, Try.ntmps86
  go_wp2_with fail
  have hn : New w w.drew := (Upd.refl _ _).drew
  refine wp_region_noPanic ?_
  refine wp_region_held_drew (S := (New w)) (by kernel_rfl) (by first | exact hn | exact (Upd.refl _ _).drew | exact Upd.drew (by assumption)) (fun hn => ?_)
  refine wpAnyH_take (i := 1) (oi := { dst := some 42, op := Op.move (Operand.tmp 0), type := 3, pos := "ref.go:89", after := #[{ on := 5, ground := Ground.gcOnly Departure.lateStores }], guard := none }) (v := ?v18x1) rfl (by kernel_rfl) (by kernel_rfl) (by kernel_rfl) (fun _ _ _ h => h) (Or.inl ⟨by rfl, ?y18x1⟩) hn ?r18x1
  case y18x1 => (intro wS hS; (try go_simp); (try with_reducible rfl))
  try simp only [Act.put, List.setIfInBounds_toArray, List.set_cons_zero, List.set_cons_succ]
  refine wpAnyH_take (i := 2) (oi := { dst := some 43, op := Op.binOp BinOp.sub 3 (Operand.tmp 42) (Operand.const (Value.int IntKind.i64 21)) 3, type := 3, pos := "ref.go:89", after := #[{ on := 1, ground := Ground.data }, { on := 5, ground := Ground.gcOnly Departure.lateStores }], guard := none }) (v := ?v18x2) rfl (by kernel_rfl) (by kernel_rfl) (by kernel_rfl) (fun _ _ _ h => h) (Or.inl ⟨by rfl, ?y18x2⟩) hn ?r18x2
  case y18x2 => (intro wS hS; (try go_simp); (try with_reducible rfl))
  try simp only [Act.put, List.setIfInBounds_toArray, List.set_cons_zero, List.set_cons_succ]
  refine wpAnyH_take (i := 5) (oi := { dst := some 2, op := Op.assign (Operand.const (Value.int IntKind.i64 15)), type := 3, pos := "ref.go:89", after := #[{ on := 0, ground := Ground.textOnly Departure.lateStores }, { on := 1, ground := Ground.textOnly Departure.lateStores }, { on := 2, ground := Ground.textOnly Departure.lateStores }, { on := 3, ground := Ground.textOnly Departure.lateStores }, { on := 4, ground := Ground.textOnly Departure.lateStores }], guard := none }) (v := ?v18x3) rfl (by kernel_rfl) (by kernel_rfl) (by kernel_rfl) (fun _ _ _ h => h) (Or.inl ⟨by rfl, ?y18x3⟩) hn ?r18x3
  case y18x3 => (intro wS hS; (try go_simp); (try with_reducible rfl))
  try simp only [Act.put, List.setIfInBounds_toArray, List.set_cons_zero, List.set_cons_succ]
  refine wpAnyH_ready (rs := [0]) (by kernel_rfl) (by simp) ?_
  refine AllReadyH.cons (o := { dst := some 41, op := Op.buildSlice 62 14 #[(0, Operand.const (Value.int IntKind.i64 16)), (1, Operand.const (Value.int IntKind.i64 16)), (2, Operand.const (Value.int IntKind.i64 16)), (3, Operand.const (Value.int IntKind.i64 8)), (4, Operand.const (Value.int IntKind.i64 8)), (5, Operand.const (Value.int IntKind.i64 8)), (6, Operand.const (Value.int IntKind.i64 4)), (7, Operand.const (Value.int IntKind.i64 4)), (8, Operand.const (Value.int IntKind.i64 2)), (9, Operand.const (Value.int IntKind.i64 2)), (10, Operand.const (Value.int IntKind.i64 4)), (11, Operand.const (Value.int IntKind.i64 4)), (12, Operand.const (Value.int IntKind.i64 2)), (13, Operand.const (Value.int IntKind.i64 2))], type := 62, pos := "ref.go:89", after := #[{ on := 5, ground := Ground.gcOnly Departure.lateStores }], guard := none }) rfl (fun K hK => ?_) AllReadyH.nil
  go_simp
  refine hK.out _ _ (by first | exact hn | exact Upd.alloc hn _) (fun hn => ?_)
  clear hK K
  try simp only [Act.put, List.setIfInBounds_toArray, List.set_cons_zero, List.set_cons_succ]
  refine wpAnyH_take (i := 3) (oi := { dst := some 44, op := Op.indexAddr 62 (Operand.tmp 41) (Operand.tmp 43), type := 0, pos := "ref.go:89", after := #[{ on := 0, ground := Ground.data }, { on := 2, ground := Ground.data }, { on := 5, ground := Ground.gcOnly Departure.lateStores }], guard := none }) (v := ?v18x4) rfl (by kernel_rfl) (by kernel_rfl) (by kernel_rfl) (fun _ _ _ h => h) (Or.inl ⟨by rfl, ?y18x4⟩) hn ?r18x4
  case y18x4 => (intro wS hS; (try go_simp); (try with_reducible rfl))
  try simp only [Act.put, List.setIfInBounds_toArray, List.set_cons_zero, List.set_cons_succ]
  refine wpAnyH_ready (rs := [4]) (by kernel_rfl) (by simp) ?_
  refine AllReadyH.cons (o := { dst := some 45, op := Op.load 3 (Operand.tmp 44), type := 3, pos := "ref.go:89", after := #[{ on := 3, ground := Ground.data }, { on := 5, ground := Ground.gcOnly Departure.lateStores }], guard := none }) rfl (fun K hK => ?_) AllReadyH.nil
  go_simp
  refine hK.out _ _ (by first | exact hn | exact Upd.alloc hn _) (fun hn => ?_)
  clear hK K
  try simp only [Act.put, List.setIfInBounds_toArray, List.set_cons_zero, List.set_cons_succ]
  refine wpAnyH_take (i := 6) (oi := { dst := some 3, op := Op.assign (Operand.tmp 45), type := 3, pos := "ref.go:89", after := #[{ on := 4, ground := Ground.data }, { on := 5, ground := Ground.chain }, { on := 0, ground := Ground.phase }, { on := 1, ground := Ground.phase }, { on := 2, ground := Ground.phase }, { on := 3, ground := Ground.phase }, { on := 4, ground := Ground.phase }, { on := 5, ground := Ground.phase }], guard := none }) (v := ?v18x5) rfl (by kernel_rfl) (by kernel_rfl) (by kernel_rfl) (fun _ _ _ h => h) (Or.inl ⟨by rfl, ?y18x5⟩) hn ?r18x5
  case y18x5 => (intro wS hS; (try go_simp); (try with_reducible rfl))
  try simp only [Act.put, List.setIfInBounds_toArray, List.set_cons_zero, List.set_cons_succ]
  refine wpAnyH_done (by kernel_rfl) ?_ _
  refine NoPanic.normal ?_
  go_wp2_with fail
  go_ret2
  exact ⟨rfl, hn⟩
theorem rvector_34 (w : World) : Calls Try.prog 86 #[.int .i64 34] w (VecP (rvectorV 34) w) := by
  have e0 : IntKind.i64.wrap 0 = 0 := by decide
  have e1 : IntKind.i64.wrap 1 = 1 := by decide
  have e2 : IntKind.i64.wrap 2 = 2 := by decide
  have e3 : IntKind.i64.wrap 3 = 3 := by decide
  have e4 : IntKind.i64.wrap 4 = 4 := by decide
  have e5 : IntKind.i64.wrap 5 = 5 := by decide
  have e6 : IntKind.i64.wrap 6 = 6 := by decide
  have e7 : IntKind.i64.wrap 7 = 7 := by decide
  have e8 : IntKind.i64.wrap 8 = 8 := by decide
  have e9 : IntKind.i64.wrap 9 = 9 := by decide
  have e10 : IntKind.i64.wrap 10 = 10 := by decide
  have e11 : IntKind.i64.wrap 11 = 11 := by decide
  have e12 : IntKind.i64.wrap 12 = 12 := by decide
  have e13 : IntKind.i64.wrap 13 = 13 := by decide
  go_enter Try.func86, Try.ntmps86
  go_wp2_with fail
  have hn : New w w.drew := (Upd.refl _ _).drew
  refine wp_region_noPanic ?_
  refine wp_region_held_drew (S := (New w)) (by kernel_rfl) (by first | exact hn | exact (Upd.refl _ _).drew | exact Upd.drew (by assumption)) (fun hn => ?_)
  refine wpAnyH_take (i := 1) (oi := { dst := some 42, op := Op.move (Operand.tmp 0), type := 3, pos := "ref.go:89", after := #[{ on := 5, ground := Ground.gcOnly Departure.lateStores }], guard := none }) (v := ?v19x1) rfl (by kernel_rfl) (by kernel_rfl) (by kernel_rfl) (fun _ _ _ h => h) (Or.inl ⟨by rfl, ?y19x1⟩) hn ?r19x1
  case y19x1 => (intro wS hS; (try go_simp); (try with_reducible rfl))
  try simp only [Act.put, List.setIfInBounds_toArray, List.set_cons_zero, List.set_cons_succ]
  refine wpAnyH_take (i := 2) (oi := { dst := some 43, op := Op.binOp BinOp.sub 3 (Operand.tmp 42) (Operand.const (Value.int IntKind.i64 21)) 3, type := 3, pos := "ref.go:89", after := #[{ on := 1, ground := Ground.data }, { on := 5, ground := Ground.gcOnly Departure.lateStores }], guard := none }) (v := ?v19x2) rfl (by kernel_rfl) (by kernel_rfl) (by kernel_rfl) (fun _ _ _ h => h) (Or.inl ⟨by rfl, ?y19x2⟩) hn ?r19x2
  case y19x2 => (intro wS hS; (try go_simp); (try with_reducible rfl))
  try simp only [Act.put, List.setIfInBounds_toArray, List.set_cons_zero, List.set_cons_succ]
  refine wpAnyH_take (i := 5) (oi := { dst := some 2, op := Op.assign (Operand.const (Value.int IntKind.i64 15)), type := 3, pos := "ref.go:89", after := #[{ on := 0, ground := Ground.textOnly Departure.lateStores }, { on := 1, ground := Ground.textOnly Departure.lateStores }, { on := 2, ground := Ground.textOnly Departure.lateStores }, { on := 3, ground := Ground.textOnly Departure.lateStores }, { on := 4, ground := Ground.textOnly Departure.lateStores }], guard := none }) (v := ?v19x3) rfl (by kernel_rfl) (by kernel_rfl) (by kernel_rfl) (fun _ _ _ h => h) (Or.inl ⟨by rfl, ?y19x3⟩) hn ?r19x3
  case y19x3 => (intro wS hS; (try go_simp); (try with_reducible rfl))
  try simp only [Act.put, List.setIfInBounds_toArray, List.set_cons_zero, List.set_cons_succ]
  refine wpAnyH_ready (rs := [0]) (by kernel_rfl) (by simp) ?_
  refine AllReadyH.cons (o := { dst := some 41, op := Op.buildSlice 62 14 #[(0, Operand.const (Value.int IntKind.i64 16)), (1, Operand.const (Value.int IntKind.i64 16)), (2, Operand.const (Value.int IntKind.i64 16)), (3, Operand.const (Value.int IntKind.i64 8)), (4, Operand.const (Value.int IntKind.i64 8)), (5, Operand.const (Value.int IntKind.i64 8)), (6, Operand.const (Value.int IntKind.i64 4)), (7, Operand.const (Value.int IntKind.i64 4)), (8, Operand.const (Value.int IntKind.i64 2)), (9, Operand.const (Value.int IntKind.i64 2)), (10, Operand.const (Value.int IntKind.i64 4)), (11, Operand.const (Value.int IntKind.i64 4)), (12, Operand.const (Value.int IntKind.i64 2)), (13, Operand.const (Value.int IntKind.i64 2))], type := 62, pos := "ref.go:89", after := #[{ on := 5, ground := Ground.gcOnly Departure.lateStores }], guard := none }) rfl (fun K hK => ?_) AllReadyH.nil
  go_simp
  refine hK.out _ _ (by first | exact hn | exact Upd.alloc hn _) (fun hn => ?_)
  clear hK K
  try simp only [Act.put, List.setIfInBounds_toArray, List.set_cons_zero, List.set_cons_succ]
  refine wpAnyH_take (i := 3) (oi := { dst := some 44, op := Op.indexAddr 62 (Operand.tmp 41) (Operand.tmp 43), type := 0, pos := "ref.go:89", after := #[{ on := 0, ground := Ground.data }, { on := 2, ground := Ground.data }, { on := 5, ground := Ground.gcOnly Departure.lateStores }], guard := none }) (v := ?v19x4) rfl (by kernel_rfl) (by kernel_rfl) (by kernel_rfl) (fun _ _ _ h => h) (Or.inl ⟨by rfl, ?y19x4⟩) hn ?r19x4
  case y19x4 => (intro wS hS; (try go_simp); (try with_reducible rfl))
  try simp only [Act.put, List.setIfInBounds_toArray, List.set_cons_zero, List.set_cons_succ]
  refine wpAnyH_ready (rs := [4]) (by kernel_rfl) (by simp) ?_
  refine AllReadyH.cons (o := { dst := some 45, op := Op.load 3 (Operand.tmp 44), type := 3, pos := "ref.go:89", after := #[{ on := 3, ground := Ground.data }, { on := 5, ground := Ground.gcOnly Departure.lateStores }], guard := none }) rfl (fun K hK => ?_) AllReadyH.nil
  go_simp
  refine hK.out _ _ (by first | exact hn | exact Upd.alloc hn _) (fun hn => ?_)
  clear hK K
  try simp only [Act.put, List.setIfInBounds_toArray, List.set_cons_zero, List.set_cons_succ]
  refine wpAnyH_take (i := 6) (oi := { dst := some 3, op := Op.assign (Operand.tmp 45), type := 3, pos := "ref.go:89", after := #[{ on := 4, ground := Ground.data }, { on := 5, ground := Ground.chain }, { on := 0, ground := Ground.phase }, { on := 1, ground := Ground.phase }, { on := 2, ground := Ground.phase }, { on := 3, ground := Ground.phase }, { on := 4, ground := Ground.phase }, { on := 5, ground := Ground.phase }], guard := none }) (v := ?v19x5) rfl (by kernel_rfl) (by kernel_rfl) (by kernel_rfl) (fun _ _ _ h => h) (Or.inl ⟨by rfl, ?y19x5⟩) hn ?r19x5
  case y19x5 => (intro wS hS; (try go_simp); (try with_reducible rfl))
  try simp only [Act.put, List.setIfInBounds_toArray, List.set_cons_zero, List.set_cons_succ]
  refine wpAnyH_done (by kernel_rfl) ?_ _
  refine NoPanic.normal ?_
  go_wp2_with fail
  go_ret2
  exact ⟨rfl, hn⟩

theorem rvector_84 (w : World) : Calls Try.prog 86 #[.int .i64 84] w (VecP (rvectorV 84) w) := by
  have e0 : IntKind.i64.wrap 0 = 0 := by decide
  have e1 : IntKind.i64.wrap 1 = 1 := by decide
  have e2 : IntKind.i64.wrap 2 = 2 := by decide
  have e3 : IntKind.i64.wrap 3 = 3 := by decide
  have e4 : IntKind.i64.wrap 4 = 4 := by decide
  have e5 : IntKind.i64.wrap 5 = 5 := by decide
  have e6 : IntKind.i64.wrap 6 = 6 := by decide
  have e7 : IntKind.i64.wrap 7 = 7 := by decide
  have e8 : IntKind.i64.wrap 8 = 8 := by decide
  have e9 : IntKind.i64.wrap 9 = 9 := by decide
  have e10 : IntKind.i64.wrap 10 = 10 := by decide
  have e11 : IntKind.i64.wrap 11 = 11 := by decide
  have e12 : IntKind.i64.wrap 12 = 12 := by decide
  have e13 : IntKind.i64.wrap 13 = 13 := by decide
  have t4 : Int.tmod 4 4 = 0 := by decide
  have t5 : Int.tmod 5 4 = 1 := by decide
  have t6 : Int.tmod 6 4 = 2 := by decide
  have t7 : Int.tmod 7 4 = 3 := by decide
  go_enter Try.func86, Try.ntmps86
  go_wp2_with fail
  have hn : New w w.drew := (Upd.refl _ _).drew
  refine wp_region_noPanic ?_
  refine wp_region_held_drew (S := (New w)) (by kernel_rfl) (by first | exact hn | exact (Upd.refl _ _).drew | exact Upd.drew (by assumption)) (fun hn => ?_)
  refine wpAnyH_take (i := 1) (oi := { dst := some 53, op := Op.move (Operand.tmp 0), type := 3, pos := "ref.go:92", after := #[{ on := 6, ground := Ground.gcOnly Departure.lateStores }], guard := none }) (v := ?v20x1) rfl (by kernel_rfl) (by kernel_rfl) (by kernel_rfl) (fun _ _ _ h => h) (Or.inl ⟨by rfl, ?y20x1⟩) hn ?r20x1
  case y20x1 => (intro wS hS; (try go_simp); (try with_reducible rfl))
  try simp only [Act.put, List.setIfInBounds_toArray, List.set_cons_zero, List.set_cons_succ]
  refine wpAnyH_take (i := 2) (oi := { dst := some 54, op := Op.binOp BinOp.sub 3 (Operand.tmp 53) (Operand.const (Value.int IntKind.i64 84)) 3, type := 3, pos := "ref.go:92", after := #[{ on := 1, ground := Ground.data }, { on := 6, ground := Ground.gcOnly Departure.lateStores }], guard := none }) (v := ?v20x2) rfl (by kernel_rfl) (by kernel_rfl) (by kernel_rfl) (fun _ _ _ h => h) (Or.inl ⟨by rfl, ?y20x2⟩) hn ?r20x2
  case y20x2 => (intro wS hS; (try go_simp); (try with_reducible rfl))
  try simp only [Act.put, List.setIfInBounds_toArray, List.set_cons_zero, List.set_cons_succ]
  refine wpAnyH_take (i := 3) (oi := { dst := some 55, op := Op.binOp BinOp.rem 3 (Operand.tmp 54) (Operand.const (Value.int IntKind.i64 4)) 3, type := 3, pos := "ref.go:92", after := #[{ on := 2, ground := Ground.data }, { on := 6, ground := Ground.gcOnly Departure.lateStores }], guard := none }) (v := ?v20x3) rfl (by kernel_rfl) (by kernel_rfl) (by kernel_rfl) (fun _ _ _ h => h) (Or.inl ⟨by rfl, ?y20x3⟩) hn ?r20x3
  case y20x3 => (intro wS hS; (try go_simp); (try with_reducible rfl))
  try simp only [Act.put, List.setIfInBounds_toArray, List.set_cons_zero, List.set_cons_succ]
  refine wpAnyH_take (i := 6) (oi := { dst := some 2, op := Op.assign (Operand.const (Value.int IntKind.i64 16)), type := 3, pos := "ref.go:92", after := #[{ on := 0, ground := Ground.textOnly Departure.lateStores }, { on := 1, ground := Ground.textOnly Departure.lateStores }, { on := 2, ground := Ground.textOnly Departure.lateStores }, { on := 3, ground := Ground.textOnly Departure.lateStores }, { on := 4, ground := Ground.textOnly Departure.lateStores }, { on := 5, ground := Ground.textOnly Departure.lateStores }], guard := none }) (v := ?v20x4) rfl (by kernel_rfl) (by kernel_rfl) (by kernel_rfl) (fun _ _ _ h => h) (Or.inl ⟨by rfl, ?y20x4⟩) hn ?r20x4
  case y20x4 => (intro wS hS; (try go_simp); (try with_reducible rfl))
  try simp only [Act.put, List.setIfInBounds_toArray, List.set_cons_zero, List.set_cons_succ]
  refine wpAnyH_ready (rs := [0]) (by kernel_rfl) (by simp) ?_
  refine AllReadyH.cons (o := { dst := some 52, op := Op.buildSlice 62 4 #[(0, Operand.const (Value.int IntKind.i64 16)), (1, Operand.const (Value.int IntKind.i64 8)), (2, Operand.const (Value.int IntKind.i64 4)), (3, Operand.const (Value.int IntKind.i64 2))], type := 62, pos := "ref.go:92", after := #[{ on := 6, ground := Ground.gcOnly Departure.lateStores }], guard := none }) rfl (fun K hK => ?_) AllReadyH.nil
  go_simp
  refine hK.out _ _ (by first | exact hn | exact Upd.alloc hn _) (fun hn => ?_)
  clear hK K
  try simp only [Act.put, List.setIfInBounds_toArray, List.set_cons_zero, List.set_cons_succ]
  refine wpAnyH_take (i := 4) (oi := { dst := some 56, op := Op.indexAddr 62 (Operand.tmp 52) (Operand.tmp 55), type := 0, pos := "ref.go:92", after := #[{ on := 0, ground := Ground.data }, { on := 3, ground := Ground.data }, { on := 6, ground := Ground.gcOnly Departure.lateStores }], guard := none }) (v := ?v20x5) rfl (by kernel_rfl) (by kernel_rfl) (by kernel_rfl) (fun _ _ _ h => h) (Or.inl ⟨by rfl, ?y20x5⟩) hn ?r20x5
  case y20x5 => (intro wS hS; (try go_simp); (try with_reducible rfl))
  try simp only [Act.put, List.setIfInBounds_toArray, List.set_cons_zero, List.set_cons_succ]
  refine wpAnyH_ready (rs := [5]) (by kernel_rfl) (by simp) ?_
  refine AllReadyH.cons (o := { dst := some 57, op := Op.load 3 (Operand.tmp 56), type := 3, pos := "ref.go:92", after := #[{ on := 4, ground := Ground.data }, { on := 6, ground := Ground.gcOnly Departure.lateStores }], guard := none }) rfl (fun K hK => ?_) AllReadyH.nil
  go_simp
  refine hK.out _ _ (by first | exact hn | exact Upd.alloc hn _) (fun hn => ?_)
  clear hK K
  try simp only [Act.put, List.setIfInBounds_toArray, List.set_cons_zero, List.set_cons_succ]
  refine wpAnyH_take (i := 7) (oi := { dst := some 3, op := Op.assign (Operand.tmp 57), type := 3, pos := "ref.go:92", after := #[{ on := 5, ground := Ground.data }, { on := 6, ground := Ground.chain }, { on := 0, ground := Ground.phase }, { on := 1, ground := Ground.phase }, { on := 2, ground := Ground.phase }, { on := 3, ground := Ground.phase }, { on := 4, ground := Ground.phase }, { on := 5, ground := Ground.phase }, { on := 6, ground := Ground.phase }], guard := none }) (v := ?v20x6) rfl (by kernel_rfl) (by kernel_rfl) (by kernel_rfl) (fun _ _ _ h => h) (Or.inl ⟨by rfl, ?y20x6⟩) hn ?r20x6
  case y20x6 => (intro wS hS; (try go_simp); (try with_reducible rfl))
  try simp only [Act.put, List.setIfInBounds_toArray, List.set_cons_zero, List.set_cons_succ]
  refine wpAnyH_done (by kernel_rfl) ?_ _
  refine NoPanic.normal ?_
  go_wp2_with fail
  go_ret2
  exact ⟨rfl, hn⟩
theorem rvector_85 (w : World) : Calls Try.prog 86 #[.int .i64 85] w (VecP (rvectorV 85) w) := by
  have e0 : IntKind.i64.wrap 0 = 0 := by decide
  have e1 : IntKind.i64.wrap 1 = 1 := by decide
  have e2 : IntKind.i64.wrap 2 = 2 := by decide
  have e3 : IntKind.i64.wrap 3 = 3 := by decide
  have e4 : IntKind.i64.wrap 4 = 4 := by decide
  have e5 : IntKind.i64.wrap 5 = 5 := by decide
  have e6 : IntKind.i64.wrap 6 = 6 := by decide
  have e7 : IntKind.i64.wrap 7 = 7 := by decide
  have e8 : IntKind.i64.wrap 8 = 8 := by decide
  have e9 : IntKind.i64.wrap 9 = 9 := by decide
  have e10 : IntKind.i64.wrap 10 = 10 := by decide
  have e11 : IntKind.i64.wrap 11 = 11 := by decide
  have e12 : IntKind.i64.wrap 12 = 12 := by decide
  have e13 : IntKind.i64.wrap 13 = 13 := by decide
  have t4 : Int.tmod 4 4 = 0 := by decide
  have t5 : Int.tmod 5 4 = 1 := by decide
  have t6 : Int.tmod 6 4 = 2 := by decide
  have t7 : Int.tmod 7 4 = 3 := by decide
  go_enter Try.func86, Try.ntmps86
  go_wp2_with fail
  have hn : New w w.drew := (Upd.refl _ _).drew
  refine wp_region_noPanic ?_
  refine wp_region_held_drew (S := (New w)) (by kernel_rfl) (by first | exact hn | exact (Upd.refl _ _).drew | exact Upd.drew (by assumption)) (fun hn => ?_)
  refine wpAnyH_take (i := 1) (oi := { dst := some 53, op := Op.move (Operand.tmp 0), type := 3, pos := "ref.go:92", after := #[{ on := 6, ground := Ground.gcOnly Departure.lateStores }], guard := none }) (v := ?v21x1) rfl (by kernel_rfl) (by kernel_rfl) (by kernel_rfl) (fun _ _ _ h => h) (Or.inl ⟨by rfl, ?y21x1⟩) hn ?r21x1
  case y21x1 => (intro wS hS; (try go_simp); (try with_reducible rfl))
  try simp only [Act.put, List.setIfInBounds_toArray, List.set_cons_zero, List.set_cons_succ]
  refine wpAnyH_take (i := 2) (oi := { dst := some 54, op := Op.binOp BinOp.sub 3 (Operand.tmp 53) (Operand.const (Value.int IntKind.i64 84)) 3, type := 3, pos := "ref.go:92", after := #[{ on := 1, ground := Ground.data }, { on := 6, ground := Ground.gcOnly Departure.lateStores }], guard := none }) (v := ?v21x2) rfl (by kernel_rfl) (by kernel_rfl) (by kernel_rfl) (fun _ _ _ h => h) (Or.inl ⟨by rfl, ?y21x2⟩) hn ?r21x2
  case y21x2 => (intro wS hS; (try go_simp); (try with_reducible rfl))
  try simp only [Act.put, List.setIfInBounds_toArray, List.set_cons_zero, List.set_cons_succ]
  refine wpAnyH_take (i := 3) (oi := { dst := some 55, op := Op.binOp BinOp.rem 3 (Operand.tmp 54) (Operand.const (Value.int IntKind.i64 4)) 3, type := 3, pos := "ref.go:92", after := #[{ on := 2, ground := Ground.data }, { on := 6, ground := Ground.gcOnly Departure.lateStores }], guard := none }) (v := ?v21x3) rfl (by kernel_rfl) (by kernel_rfl) (by kernel_rfl) (fun _ _ _ h => h) (Or.inl ⟨by rfl, ?y21x3⟩) hn ?r21x3
  case y21x3 => (intro wS hS; (try go_simp); (try with_reducible rfl))
  try simp only [Act.put, List.setIfInBounds_toArray, List.set_cons_zero, List.set_cons_succ]
  refine wpAnyH_take (i := 6) (oi := { dst := some 2, op := Op.assign (Operand.const (Value.int IntKind.i64 16)), type := 3, pos := "ref.go:92", after := #[{ on := 0, ground := Ground.textOnly Departure.lateStores }, { on := 1, ground := Ground.textOnly Departure.lateStores }, { on := 2, ground := Ground.textOnly Departure.lateStores }, { on := 3, ground := Ground.textOnly Departure.lateStores }, { on := 4, ground := Ground.textOnly Departure.lateStores }, { on := 5, ground := Ground.textOnly Departure.lateStores }], guard := none }) (v := ?v21x4) rfl (by kernel_rfl) (by kernel_rfl) (by kernel_rfl) (fun _ _ _ h => h) (Or.inl ⟨by rfl, ?y21x4⟩) hn ?r21x4
  case y21x4 => (intro wS hS; (try go_simp); (try with_reducible rfl))
  try simp only [Act.put, List.setIfInBounds_toArray, List.set_cons_zero, List.set_cons_succ]
  refine wpAnyH_ready (rs := [0]) (by kernel_rfl) (by simp) ?_
  refine AllReadyH.cons (o := { dst := some 52, op := Op.buildSlice 62 4 #[(0, Operand.const (Value.int IntKind.i64 16)), (1, Operand.const (Value.int IntKind.i64 8)), (2, Operand.const (Value.int IntKind.i64 4)), (3, Operand.const (Value.int IntKind.i64 2))], type := 62, pos := "ref.go:92", after := #[{ on := 6, ground := Ground.gcOnly Departure.lateStores }], guard := none }) rfl (fun K hK => ?_) AllReadyH.nil
  go_simp
  refine hK.out _ _ (by first | exact hn | exact Upd.alloc hn _) (fun hn => ?_)
  clear hK K
  try simp only [Act.put, List.setIfInBounds_toArray, List.set_cons_zero, List.set_cons_succ]
  refine wpAnyH_take (i := 4) (oi := { dst := some 56, op := Op.indexAddr 62 (Operand.tmp 52) (Operand.tmp 55), type := 0, pos := "ref.go:92", after := #[{ on := 0, ground := Ground.data }, { on := 3, ground := Ground.data }, { on := 6, ground := Ground.gcOnly Departure.lateStores }], guard := none }) (v := ?v21x5) rfl (by kernel_rfl) (by kernel_rfl) (by kernel_rfl) (fun _ _ _ h => h) (Or.inl ⟨by rfl, ?y21x5⟩) hn ?r21x5
  case y21x5 => (intro wS hS; (try go_simp); (try with_reducible rfl))
  try simp only [Act.put, List.setIfInBounds_toArray, List.set_cons_zero, List.set_cons_succ]
  refine wpAnyH_ready (rs := [5]) (by kernel_rfl) (by simp) ?_
  refine AllReadyH.cons (o := { dst := some 57, op := Op.load 3 (Operand.tmp 56), type := 3, pos := "ref.go:92", after := #[{ on := 4, ground := Ground.data }, { on := 6, ground := Ground.gcOnly Departure.lateStores }], guard := none }) rfl (fun K hK => ?_) AllReadyH.nil
  go_simp
  refine hK.out _ _ (by first | exact hn | exact Upd.alloc hn _) (fun hn => ?_)
  clear hK K
  try simp only [Act.put, List.setIfInBounds_toArray, List.set_cons_zero, List.set_cons_succ]
  refine wpAnyH_take (i := 7) (oi := { dst := some 3, op := Op.assign (Operand.tmp 57), type := 3, pos := "ref.go:92", after := #[{ on := 5, ground := Ground.data }, { on := 6, ground := Ground.chain }, { on := 0, ground := Ground.phase }, { on := 1, ground := Ground.phase }, { on := 2, ground := Ground.phase }, { on := 3, ground := Ground.phase }, { on := 4, ground := Ground.phase }, { on := 5, ground := Ground.phase }, { on := 6, ground := Ground.phase }], guard := none }) (v := ?v21x6) rfl (by kernel_rfl) (by kernel_rfl) (by kernel_rfl) (fun _ _ _ h => h) (Or.inl ⟨by rfl, ?y21x6⟩) hn ?r21x6
  case y21x6 => (intro wS hS; (try go_simp); (try with_reducible rfl))
  try simp only [Act.put, List.setIfInBounds_toArray, List.set_cons_zero, List.set_cons_succ]
  refine wpAnyH_done (by kernel_rfl) ?_ _
  refine NoPanic.normal ?_
  go_wp2_with fail
  go_ret2
  exact ⟨rfl, hn⟩
theorem rvector_86 (w : World) : Calls Try.prog 86 #[.int .i64 86] w (VecP (rvectorV 86) w) := by
  have e0 : IntKind.i64.wrap 0 = 0 := by decide
  have e1 : IntKind.i64.wrap 1 = 1 := by decide
  have e2 : IntKind.i64.wrap 2 = 2 := by decide
  have e3 : IntKind.i64.wrap 3 = 3 := by decide
  have e4 : IntKind.i64.wrap 4 = 4 := by decide
  have e5 : IntKind.i64.wrap 5 = 5 := by decide
  have e6 : IntKind.i64.wrap 6 = 6 := by decide
  have e7 : IntKind.i64.wrap 7 = 7 := by decide
  have e8 : IntKind.i64.wrap 8 = 8 := by decide
  have e9 : IntKind.i64.wrap 9 = 9 := by decide
  have e10 : IntKind.i64.wrap 10 = 10 := by decide
  have e11 : IntKind.i64.wrap 11 = 11 := by decide
  have e12 : IntKind.i64.wrap 12 = 12 := by decide
  have e13 : IntKind.i64.wrap 13 = 13 := by decide
  have t4 : Int.tmod 4 4 = 0 := by decide
  have t5 : Int.tmod 5 4 = 1 := by decide
  have t6 : Int.tmod 6 4 = 2 := by decide
  have t7 : Int.tmod 7 4 = 3 := by decide
  go_enter Try.func86, Try.ntmps86
  go_wp2_with fail
  have hn : New w w.drew := (Upd.refl _ _).drew
  refine wp_region_noPanic ?_
  refine wp_region_held_drew (S := (New w)) (by kernel_rfl) (by first | exact hn | exact (Upd.refl _ _).drew | exact Upd.drew (by assumption)) (fun hn => ?_)
  refine wpAnyH_take (i := 1) (oi := { dst := some 53, op := Op.move (Operand.tmp 0), type := 3, pos := "ref.go:92", after := #[{ on := 6, ground := Ground.gcOnly Departure.lateStores }], guard := none }) (v := ?v22x1) rfl (by kernel_rfl) (by kernel_rfl) (by kernel_rfl) (fun _ _ _ h => h) (Or.inl ⟨by rfl, ?y22x1⟩) hn ?r22x1
  case y22x1 => (intro wS hS; (try go_simp); (try with_reducible rfl))
  try simp only [Act.put, List.setIfInBounds_toArray, List.set_cons_zero, List.set_cons_succ]
  refine wpAnyH_take (i := 2) (oi := { dst := some 54, op := Op.binOp BinOp.sub 3 (Operand.tmp 53) (Operand.const (Value.int IntKind.i64 84)) 3, type := 3, pos := "ref.go:92", after := #[{ on := 1, ground := Ground.data }, { on := 6, ground := Ground.gcOnly Departure.lateStores }], guard := none }) (v := ?v22x2) rfl (by kernel_rfl) (by kernel_rfl) (by kernel_rfl) (fun _ _ _ h => h) (Or.inl ⟨by rfl, ?y22x2⟩) hn ?r22x2
  case y22x2 => (intro wS hS; (try go_simp); (try with_reducible rfl))
  try simp only [Act.put, List.setIfInBounds_toArray, List.set_cons_zero, List.set_cons_succ]
  refine wpAnyH_take (i := 3) (oi := { dst := some 55, op := Op.binOp BinOp.rem 3 (Operand.tmp 54) (Operand.const (Value.int IntKind.i64 4)) 3, type := 3, pos := "ref.go:92", after := #[{ on := 2, ground := Ground.data }, { on := 6, ground := Ground.gcOnly Departure.lateStores }], guard := none }) (v := ?v22x3) rfl (by kernel_rfl) (by kernel_rfl) (by kernel_rfl) (fun _ _ _ h => h) (Or.inl ⟨by rfl, ?y22x3⟩) hn ?r22x3
  case y22x3 => (intro wS hS; (try go_simp); (try with_reducible rfl))
  try simp only [Act.put, List.setIfInBounds_toArray, List.set_cons_zero, List.set_cons_succ]
  refine wpAnyH_take (i := 6) (oi := { dst := some 2, op := Op.assign (Operand.const (Value.int IntKind.i64 16)), type := 3, pos := "ref.go:92", after := #[{ on := 0, ground := Ground.textOnly Departure.lateStores }, { on := 1, ground := Ground.textOnly Departure.lateStores }, { on := 2, ground := Ground.textOnly Departure.lateStores }, { on := 3, ground := Ground.textOnly Departure.lateStores }, { on := 4, ground := Ground.textOnly Departure.lateStores }, { on := 5, ground := Ground.textOnly Departure.lateStores }], guard := none }) (v := ?v22x4) rfl (by kernel_rfl) (by kernel_rfl) (by kernel_rfl) (fun _ _ _ h => h) (Or.inl ⟨by rfl, ?y22x4⟩) hn ?r22x4
  case y22x4 => (intro wS hS; (try go_simp); (try with_reducible rfl))
  try simp only [Act.put, List.setIfInBounds_toArray, List.set_cons_zero, List.set_cons_succ]
  refine wpAnyH_ready (rs := [0]) (by kernel_rfl) (by simp) ?_
  refine AllReadyH.cons (o := { dst := some 52, op := Op.buildSlice 62 4 #[(0, Operand.const (Value.int IntKind.i64 16)), (1, Operand.const (Value.int IntKind.i64 8)), (2, Operand.const (Value.int IntKind.i64 4)), (3, Operand.const (Value.int IntKind.i64 2))], type := 62, pos := "ref.go:92", after := #[{ on := 6, ground := Ground.gcOnly Departure.lateStores }], guard := none }) rfl (fun K hK => ?_) AllReadyH.nil
  go_simp
  refine hK.out _ _ (by first | exact hn | exact Upd.alloc hn _) (fun hn => ?_)
  clear hK K
  try simp only [Act.put, List.setIfInBounds_toArray, List.set_cons_zero, List.set_cons_succ]
  refine wpAnyH_take (i := 4) (oi := { dst := some 56, op := Op.indexAddr 62 (Operand.tmp 52) (Operand.tmp 55), type := 0, pos := "ref.go:92", after := #[{ on := 0, ground := Ground.data }, { on := 3, ground := Ground.data }, { on := 6, ground := Ground.gcOnly Departure.lateStores }], guard := none }) (v := ?v22x5) rfl (by kernel_rfl) (by kernel_rfl) (by kernel_rfl) (fun _ _ _ h => h) (Or.inl ⟨by rfl, ?y22x5⟩) hn ?r22x5
  case y22x5 => (intro wS hS; (try go_simp); (try with_reducible rfl))
  try simp only [Act.put, List.setIfInBounds_toArray, List.set_cons_zero, List.set_cons_succ]
  refine wpAnyH_ready (rs := [5]) (by kernel_rfl) (by simp) ?_
  refine AllReadyH.cons (o := { dst := some 57, op := Op.load 3 (Operand.tmp 56), type := 3, pos := "ref.go:92", after := #[{ on := 4, ground := Ground.data }, { on := 6, ground := Ground.gcOnly Departure.lateStores }], guard := none }) rfl (fun K hK => ?_) AllReadyH.nil
  go_simp
  refine hK.out _ _ (by first | exact hn | exact Upd.alloc hn _) (fun hn => ?_)
  clear hK K
  try simp only [Act.put, List.setIfInBounds_toArray, List.set_cons_zero, List.set_cons_succ]
  refine wpAnyH_take (i := 7) (oi := { dst := some 3, op := Op.assign (Operand.tmp 57), type := 3, pos := "ref.go:92", after := #[{ on := 5, ground := Ground.data }, { on := 6, ground := Ground.chain }, { on := 0, ground := Ground.phase }, { on := 1, ground := Ground.phase }, { on := 2, ground := Ground.phase }, { on := 3, ground := Ground.phase }, { on := 4, ground := Ground.phase }, { on := 5, ground := Ground.phase }, { on := 6, ground := Ground.phase }], guard := none }) (v := ?v22x6) rfl (by kernel_rfl) (by kernel_rfl) (by kernel_rfl) (fun _ _ _ h => h) (Or.inl ⟨by rfl, ?y22x6⟩) hn ?r22x6
  case y22x6 => (intro wS hS; (try go_simp); (try with_reducible rfl))
  try simp only [Act.put, List.setIfInBounds_toArray, List.set_cons_zero, List.set_cons_succ]
  refine wpAnyH_done (by kernel_rfl) ?_ _
  refine NoPanic.normal ?_
  go_wp2_with fail
  go_ret2
  exact ⟨rfl, hn⟩
theorem rvector_87 (w : World) : Calls Try.prog 86 #[.int .i64 87] w (VecP (rvectorV 87) w) := by
  have e0 : IntKind.i64.wrap 0 = 0 := by decide
  have e1 : IntKind.i64.wrap 1 = 1 := by decide
  have e2 : IntKind.i64.wrap 2 = 2 := by decide
  have e3 : IntKind.i64.wrap 3 = 3 := by decide
  have e4 : IntKind.i64.wrap 4 = 4 := by decide
  have e5 : IntKind.i64.wrap 5 = 5 := by decide
  have e6 : IntKind.i64.wrap 6 = 6 := by decide
  have e7 : IntKind.i64.wrap 7 = 7 := by decide
  have e8 : IntKind.i64.wrap 8 = 8 := by decide
  have e9 : IntKind.i64.wrap 9 = 9 := by decide
  have e10 : IntKind.i64.wrap 10 = 10 := by decide
  have e11 : IntKind.i64.wrap 11 = 11 := by decide
  have e12 : IntKind.i64.wrap 12 = 12 := by decide
  have e13 : IntKind.i64.wrap 13 = 13 := by decide
  have t4 : Int.tmod 4 4 = 0 := by decide
  have t5 : Int.tmod 5 4 = 1 := by decide
  have t6 : Int.tmod 6 4 = 2 := by decide
  have t7 : Int.tmod 7 4 = 3 := by decide
  go_enter Try.func86, Try.ntmps86
  go_wp2_with fail
  have hn : New w w.drew := (Upd.refl _ _).drew
  refine wp_region_noPanic ?_
  refine wp_region_held_drew (S := (New w)) (by kernel_rfl) (by first | exact hn | exact (Upd.refl _ _).drew | exact Upd.drew (by assumption)) (fun hn => ?_)
  refine wpAnyH_take (i := 1) (oi := { dst := some 53, op := Op.move (Operand.tmp 0), type := 3, pos := "ref.go:92", after := #[{ on := 6, ground := Ground.gcOnly Departure.lateStores }], guard := none }) (v := ?v23x1) rfl (by kernel_rfl) (by kernel_rfl) (by kernel_rfl) (fun _ _ _ h => h) (Or.inl ⟨by rfl, ?y23x1⟩) hn ?r23x1
  case y23x1 => (intro wS hS; (try go_simp); (try with_reducible rfl))
  try simp only [Act.put, List.setIfInBounds_toArray, List.set_cons_zero, List.set_cons_succ]
  refine wpAnyH_take (i := 2) (oi := { dst := some 54, op := Op.binOp BinOp.sub 3 (Operand.tmp 53) (Operand.const (Value.int IntKind.i64 84)) 3, type := 3, pos := "ref.go:92", after := #[{ on := 1, ground := Ground.data }, { on := 6, ground := Ground.gcOnly Departure.lateStores }], guard := none }) (v := ?v23x2) rfl (by kernel_rfl) (by kernel_rfl) (by kernel_rfl) (fun _ _ _ h => h) (Or.inl ⟨by rfl, ?y23x2⟩) hn ?r23x2
  case y23x2 => (intro wS hS; (try go_simp); (try with_reducible rfl))
  try simp only [Act.put, List.setIfInBounds_toArray, List.set_cons_zero, List.set_cons_succ]
  refine wpAnyH_take (i := 3) (oi := { dst := some 55, op := Op.binOp BinOp.rem 3 (Operand.tmp 54) (Operand.const (Value.int IntKind.i64 4)) 3, type := 3, pos := "ref.go:92", after := #[{ on := 2, ground := Ground.data }, { on := 6, ground := Ground.gcOnly Departure.lateStores }], guard := none }) (v := ?v23x3) rfl (by kernel_rfl) (by kernel_rfl) (by kernel_rfl) (fun _ _ _ h => h) (Or.inl ⟨by rfl, ?y23x3⟩) hn ?r23x3
  case y23x3 => (intro wS hS; (try go_simp); (try with_reducible rfl))
  try simp only [Act.put, List.setIfInBounds_toArray, List.set_cons_zero, List.set_cons_succ]
  refine wpAnyH_take (i := 6) (oi := { dst := some 2, op := Op.assign (Operand.const (Value.int IntKind.i64 16)), type := 3, pos := "ref.go:92", after := #[{ on := 0, ground := Ground.textOnly Departure.lateStores }, { on := 1, ground := Ground.textOnly Departure.lateStores }, { on := 2, ground := Ground.textOnly Departure.lateStores }, { on := 3, ground := Ground.textOnly Departure.lateStores }, { on := 4, ground := Ground.textOnly Departure.lateStores }, { on := 5, ground := Ground.textOnly Departure.lateStores }], guard := none }) (v := ?v23x4) rfl (by kernel_rfl) (by kernel_rfl) (by kernel_rfl) (fun _ _ _ h => h) (Or.inl ⟨by rfl, ?y23x4⟩) hn ?r23x4
  case y23x4 => (intro wS hS; (try go_simp); (try with_reducible rfl))
  try simp only [Act.put, List.setIfInBounds_toArray, List.set_cons_zero, List.set_cons_succ]
  refine wpAnyH_ready (rs := [0]) (by kernel_rfl) (by simp) ?_
  refine AllReadyH.cons (o := { dst := some 52, op := Op.buildSlice 62 4 #[(0, Operand.const (Value.int IntKind.i64 16)), (1, Operand.const (Value.int IntKind.i64 8)), (2, Operand.const (Value.int IntKind.i64 4)), (3, Operand.const (Value.int IntKind.i64 2))], type := 62, pos := "ref.go:92", after := #[{ on := 6, ground := Ground.gcOnly Departure.lateStores }], guard := none }) rfl (fun K hK => ?_) AllReadyH.nil
  go_simp
  refine hK.out _ _ (by first | exact hn | exact Upd.alloc hn _) (fun hn => ?_)
  clear hK K
  try simp only [Act.put, List.setIfInBounds_toArray, List.set_cons_zero, List.set_cons_succ]
  refine wpAnyH_take (i := 4) (oi := { dst := some 56, op := Op.indexAddr 62 (Operand.tmp 52) (Operand.tmp 55), type := 0, pos := "ref.go:92", after := #[{ on := 0, ground := Ground.data }, { on := 3, ground := Ground.data }, { on := 6, ground := Ground.gcOnly Departure.lateStores }], guard := none }) (v := ?v23x5) rfl (by kernel_rfl) (by kernel_rfl) (by kernel_rfl) (fun _ _ _ h => h) (Or.inl ⟨by rfl, ?y23x5⟩) hn ?r23x5
  case y23x5 => (intro wS hS; (try go_simp); (try with_reducible rfl))
  try simp only [Act.put, List.setIfInBounds_toArray, List.set_cons_zero, List.set_cons_succ]
  refine wpAnyH_ready (rs := [5]) (by kernel_rfl) (by simp) ?_
  refine AllReadyH.cons (o := { dst := some 57, op := Op.load 3 (Operand.tmp 56), type := 3, pos := "ref.go:92", after := #[{ on := 4, ground := Ground.data }, { on := 6, ground := Ground.gcOnly Departure.lateStores }], guard := none }) rfl (fun K hK => ?_) AllReadyH.nil
  go_simp
  refine hK.out _ _ (by first | exact hn | exact Upd.alloc hn _) (fun hn => ?_)
  clear hK K
  try simp only [Act.put, List.setIfInBounds_toArray, List.set_cons_zero, List.set_cons_succ]
  refine wpAnyH_take (i := 7) (oi := { dst := some 3, op := Op.assign (Operand.tmp 57), type := 3, pos := "ref.go:92", after := #[{ on := 5, ground := Ground.data }, { on := 6, ground := Ground.chain }, { on := 0, ground := Ground.phase }, { on := 1, ground := Ground.phase }, { on := 2, ground := Ground.phase }, { on := 3, ground := Ground.phase }, { on := 4, ground := Ground.phase }, { on := 5, ground := Ground.phase }, { on := 6, ground := Ground.phase }], guard := none }) (v := ?v23x6) rfl (by kernel_rfl) (by kernel_rfl) (by kernel_rfl) (fun _ _ _ h => h) (Or.inl ⟨by rfl, ?y23x6⟩) hn ?r23x6
  case y23x6 => (intro wS hS; (try go_simp); (try with_reducible rfl))
  try simp only [Act.put, List.setIfInBounds_toArray, List.set_cons_zero, List.set_cons_succ]
  refine wpAnyH_done (by kernel_rfl) ?_ _
  refine NoPanic.normal ?_
  go_wp2_with fail
  go_ret2
  exact ⟨rfl, hn⟩
theorem rvector_88 (w : World) : Calls Try.prog 86 #[.int .i64 88] w (VecP (rvectorV 88) w) := by
  have e0 : IntKind.i64.wrap 0 = 0 := by decide
  have e1 : IntKind.i64.wrap 1 = 1 := by decide
  have e2 : IntKind.i64.wrap 2 = 2 := by decide
  have e3 : IntKind.i64.wrap 3 = 3 := by decide
  have e4 : IntKind.i64.wrap 4 = 4 := by decide
  have e5 : IntKind.i64.wrap 5 = 5 := by decide
  have e6 : IntKind.i64.wrap 6 = 6 := by decide
  have e7 : IntKind.i64.wrap 7 = 7 := by decide
  have e8 : IntKind.i64.wrap 8 = 8 := by decide
  have e9 : IntKind.i64.wrap 9 = 9 := by decide
  have e10 : IntKind.i64.wrap 10 = 10 := by decide
  have e11 : IntKind.i64.wrap 11 = 11 := by decide
  have e12 : IntKind.i64.wrap 12 = 12 := by decide
  have e13 : IntKind.i64.wrap 13 = 13 := by decide
  have t4 : Int.tmod 4 4 = 0 := by decide
  have t5 : Int.tmod 5 4 = 1 := by decide
  have t6 : Int.tmod 6 4 = 2 := by decide
  have t7 : Int.tmod 7 4 = 3 := by decide
  go_enter Try.func86, Try.ntmps86
  go_wp2_with fail
  have hn : New w w.drew := (Upd.refl _ _).drew
  refine wp_region_noPanic ?_
  refine wp_region_held_drew (S := (New w)) (by kernel_rfl) (by first | exact hn | exact (Upd.refl _ _).drew | exact Upd.drew (by assumption)) (fun hn => ?_)
  refine wpAnyH_take (i := 1) (oi := { dst := some 53, op := Op.move (Operand.tmp 0), type := 3, pos := "ref.go:92", after := #[{ on := 6, ground := Ground.gcOnly Departure.lateStores }], guard := none }) (v := ?v24x1) rfl (by kernel_rfl) (by kernel_rfl) (by kernel_rfl) (fun _ _ _ h => h) (Or.inl ⟨by rfl, ?y24x1⟩) hn ?r24x1
  case y24x1 => (intro wS hS; (try go_simp); (try with_reducible rfl))
  try simp only [Act.put, List.setIfInBounds_toArray, List.set_cons_zero, List.set_cons_succ]
  refine wpAnyH_take (i := 2) (oi := { dst := some 54, op := Op.binOp BinOp.sub 3 (Operand.tmp 53) (Operand.const (Value.int IntKind.i64 84)) 3, type := 3, pos := "ref.go:92", after := #[{ on := 1, ground := Ground.data }, { on := 6, ground := Ground.gcOnly Departure.lateStores }], guard := none }) (v := ?v24x2) rfl (by kernel_rfl) (by kernel_rfl) (by kernel_rfl) (fun _ _ _ h => h) (Or.inl ⟨by rfl, ?y24x2⟩) hn ?r24x2
  case y24x2 => (intro wS hS; (try go_simp); (try with_reducible rfl))
  try simp only [Act.put, List.setIfInBounds_toArray, List.set_cons_zero, List.set_cons_succ]
  refine wpAnyH_take (i := 3) (oi := { dst := some 55, op := Op.binOp BinOp.rem 3 (Operand.tmp 54) (Operand.const (Value.int IntKind.i64 4)) 3, type := 3, pos := "ref.go:92", after := #[{ on := 2, ground := Ground.data }, { on := 6, ground := Ground.gcOnly Departure.lateStores }], guard := none }) (v := ?v24x3) rfl (by kernel_rfl) (by kernel_rfl) (by kernel_rfl) (fun _ _ _ h => h) (Or.inl ⟨by rfl, ?y24x3⟩) hn ?r24x3
  case y24x3 => (intro wS hS; (try go_simp); (try with_reducible rfl))
  try simp only [Act.put, List.setIfInBounds_toArray, List.set_cons_zero, List.set_cons_succ]
  refine wpAnyH_take (i := 6) (oi := { dst := some 2, op := Op.assign (Operand.const (Value.int IntKind.i64 16)), type := 3, pos := "ref.go:92", after := #[{ on := 0, ground := Ground.textOnly Departure.lateStores }, { on := 1, ground := Ground.textOnly Departure.lateStores }, { on := 2, ground := Ground.textOnly Departure.lateStores }, { on := 3, ground := Ground.textOnly Departure.lateStores }, { on := 4, ground := Ground.textOnly Departure.lateStores }, { on := 5, ground := Ground.textOnly Departure.lateStores }], guard := none }) (v := ?v24x4) rfl (by kernel_rfl) (by kernel_rfl) (by kernel_rfl) (fun _ _ _ h => h) (Or.inl ⟨by rfl, ?y24x4⟩) hn ?r24x4
  case y24x4 => (intro wS hS; (try go_simp); (try with_reducible rfl))
  try simp only [Act.put, List.setIfInBounds_toArray, List.set_cons_zero, List.set_cons_succ]
  refine wpAnyH_ready (rs := [0]) (by kernel_rfl) (by simp) ?_
  refine AllReadyH.cons (o := { dst := some 52, op := Op.buildSlice 62 4 #[(0, Operand.const (Value.int IntKind.i64 16)), (1, Operand.const (Value.int IntKind.i64 8)), (2, Operand.const (Value.int IntKind.i64 4)), (3, Operand.const (Value.int IntKind.i64 2))], type := 62, pos := "ref.go:92", after := #[{ on := 6, ground := Ground.gcOnly Departure.lateStores }], guard := none }) rfl (fun K hK => ?_) AllReadyH.nil
  go_simp
  refine hK.out _ _ (by first | exact hn | exact Upd.alloc hn _) (fun hn => ?_)
  clear hK K
  try simp only [Act.put, List.setIfInBounds_toArray, List.set_cons_zero, List.set_cons_succ]
  refine wpAnyH_take (i := 4) (oi := { dst := some 56, op := Op.indexAddr 62 (Operand.tmp 52) (Operand.tmp 55), type := 0, pos := "ref.go:92", after := #[{ on := 0, ground := Ground.data }, { on := 3, ground := Ground.data }, { on := 6, ground := Ground.gcOnly Departure.lateStores }], guard := none }) (v := ?v24x5) rfl (by kernel_rfl) (by kernel_rfl) (by kernel_rfl) (fun _ _ _ h => h) (Or.inl ⟨by rfl, ?y24x5⟩) hn ?r24x5
  case y24x5 => (intro wS hS; (try go_simp); (try with_reducible rfl))
  try simp only [Act.put, List.setIfInBounds_toArray, List.set_cons_zero, List.set_cons_succ]
  refine wpAnyH_ready (rs := [5]) (by kernel_rfl) (by simp) ?_
  refine AllReadyH.cons (o := { dst := some 57, op := Op.load 3 (Operand.tmp 56), type := 3, pos := "ref.go:92", after := #[{ on := 4, ground := Ground.data }, { on := 6, ground := Ground.gcOnly Departure.lateStores }], guard := none }) rfl (fun K hK => ?_) AllReadyH.nil
  go_simp
  refine hK.out _ _ (by first | exact hn | exact Upd.alloc hn _) (fun hn => ?_)
  clear hK K
  try simp only [Act.put, List.setIfInBounds_toArray, List.set_cons_zero, List.set_cons_succ]
  refine wpAnyH_take (i := 7) (oi := { dst := some 3, op := Op.assign (Operand.tmp 57), type := 3, pos := "ref.go:92", after := #[{ on := 5, ground := Ground.data }, { on := 6, ground := Ground.chain }, { on := 0, ground := Ground.phase }, { on := 1, ground := Ground.phase }, { on := 2, ground := Ground.phase }, { on := 3, ground := Ground.phase }, { on := 4, ground := Ground.phase }, { on := 5, ground := Ground.phase }, { on := 6, ground := Ground.phase }], guard := none }) (v := ?v24x6) rfl (by kernel_rfl) (by kernel_rfl) (by kernel_rfl) (fun _ _ _ h => h) (Or.inl ⟨by rfl, ?y24x6⟩) hn ?r24x6
  case y24x6 => (intro wS hS; (try go_simp); (try with_reducible rfl))
  try simp only [Act.put, List.setIfInBounds_toArray, List.set_cons_zero, List.set_cons_succ]
  refine wpAnyH_done (by kernel_rfl) ?_ _
  refine NoPanic.normal ?_
  go_wp2_with fail
  go_ret2
  exact ⟨rfl, hn⟩
theorem rvector_89 (w : World) : Calls Try.prog 86 #[.int .i64 89] w (VecP (rvectorV 89) w) := by
  have e0 : IntKind.i64.wrap 0 = 0 := by decide
  have e1 : IntKind.i64.wrap 1 = 1 := by decide
  have e2 : IntKind.i64.wrap 2 = 2 := by decide
  have e3 : IntKind.i64.wrap 3 = 3 := by decide
  have e4 : IntKind.i64.wrap 4 = 4 := by decide
  have e5 : IntKind.i64.wrap 5 = 5 := by decide
  have e6 : IntKind.i64.wrap 6 = 6 := by decide
  have e7 : IntKind.i64.wrap 7 = 7 := by decide
  have e8 : IntKind.i64.wrap 8 = 8 := by decide
  have e9 : IntKind.i64.wrap 9 = 9 := by decide
  have e10 : IntKind.i64.wrap 10 = 10 := by decide
  have e11 : IntKind.i64.wrap 11 = 11 := by decide
  have e12 : IntKind.i64.wrap 12 = 12 := by decide
  have e13 : IntKind.i64.wrap 13 = 13 := by decide
  have t4 : Int.tmod 4 4 = 0 := by decide
  have t5 : Int.tmod 5 4 = 1 := by decide
  have t6 : Int.tmod 6 4 = 2 := by decide
  have t7 : Int.tmod 7 4 = 3 := by decide
  go_enter Try.func86, Try.ntmps86
  go_wp2_with fail
  have hn : New w w.drew := (Upd.refl _ _).drew
  refine wp_region_noPanic ?_
  refine wp_region_held_drew (S := (New w)) (by kernel_rfl) (by first | exact hn | exact (Upd.refl _ _).drew | exact Upd.drew (by assumption)) (fun hn => ?_)
  refine wpAnyH_take (i := 1) (oi := { dst := some 53, op := Op.move (Operand.tmp 0), type := 3, pos := "ref.go:92", after := #[{ on := 6, ground := Ground.gcOnly Departure.lateStores }], guard := none }) (v := ?v25x1) rfl (by kernel_rfl) (by kernel_rfl) (by kernel_rfl) (fun _ _ _ h => h) (Or.inl ⟨by rfl, ?y25x1⟩) hn ?r25x1
  case y25x1 => (intro wS hS; (try go_simp); (try with_reducible rfl))
  try simp only [Act.put, List.setIfInBounds_toArray, List.set_cons_zero, List.set_cons_succ]
  refine wpAnyH_take (i := 2) (oi := { dst := some 54, op := Op.binOp BinOp.sub 3 (Operand.tmp 53) (Operand.const (Value.int IntKind.i64 84)) 3, type := 3, pos := "ref.go:92", after := #[{ on := 1, ground := Ground.data }, { on := 6, ground := Ground.gcOnly Departure.lateStores }], guard := none }) (v := ?v25x2) rfl (by kernel_rfl) (by kernel_rfl) (by kernel_rfl) (fun _ _ _ h => h) (Or.inl ⟨by rfl, ?y25x2⟩) hn ?r25x2
  case y25x2 => (intro wS hS; (try go_simp); (try with_reducible rfl))
  try simp only [Act.put, List.setIfInBounds_toArray, List.set_cons_zero, List.set_cons_succ]
  refine wpAnyH_take (i := 3) (oi := { dst := some 55, op := Op.binOp BinOp.rem 3 (Operand.tmp 54) (Operand.const (Value.int IntKind.i64 4)) 3, type := 3, pos := "ref.go:92", after := #[{ on := 2, ground := Ground.data }, { on := 6, ground := Ground.gcOnly Departure.lateStores }], guard := none }) (v := ?v25x3) rfl (by kernel_rfl) (by kernel_rfl) (by kernel_rfl) (fun _ _ _ h => h) (Or.inl ⟨by rfl, ?y25x3⟩) hn ?r25x3
  case y25x3 => (intro wS hS; (try go_simp); (try with_reducible rfl))
  try simp only [Act.put, List.setIfInBounds_toArray, List.set_cons_zero, List.set_cons_succ]
  refine wpAnyH_take (i := 6) (oi := { dst := some 2, op := Op.assign (Operand.const (Value.int IntKind.i64 16)), type := 3, pos := "ref.go:92", after := #[{ on := 0, ground := Ground.textOnly Departure.lateStores }, { on := 1, ground := Ground.textOnly Departure.lateStores }, { on := 2, ground := Ground.textOnly Departure.lateStores }, { on := 3, ground := Ground.textOnly Departure.lateStores }, { on := 4, ground := Ground.textOnly Departure.lateStores }, { on := 5, ground := Ground.textOnly Departure.lateStores }], guard := none }) (v := ?v25x4) rfl (by kernel_rfl) (by kernel_rfl) (by kernel_rfl) (fun _ _ _ h => h) (Or.inl ⟨by rfl, ?y25x4⟩) hn ?r25x4
  case y25x4 => (intro wS hS; (try go_simp); (try with_reducible rfl))
  try simp only [Act.put, List.setIfInBounds_toArray, List.set_cons_zero, List.set_cons_succ]
  refine wpAnyH_ready (rs := [0]) (by kernel_rfl) (by simp) ?_
  refine AllReadyH.cons (o := { dst := some 52, op := Op.buildSlice 62 4 #[(0, Operand.const (Value.int IntKind.i64 16)), (1, Operand.const (Value.int IntKind.i64 8)), (2, Operand.const (Value.int IntKind.i64 4)), (3, Operand.const (Value.int IntKind.i64 2))], type := 62, pos := "ref.go:92", after := #[{ on := 6, ground := Ground.gcOnly Departure.lateStores }], guard := none }) rfl (fun K hK => ?_) AllReadyH.nil
  go_simp
  refine hK.out _ _ (by first | exact hn | exact Upd.alloc hn _) (fun hn => ?_)
  clear hK K
  try simp only [Act.put, List.setIfInBounds_toArray, List.set_cons_zero, List.set_cons_succ]
  refine wpAnyH_take (i := 4) (oi := { dst := some 56, op := Op.indexAddr 62 (Operand.tmp 52) (Operand.tmp 55), type := 0, pos := "ref.go:92", after := #[{ on := 0, ground := Ground.data }, { on := 3, ground := Ground.data }, { on := 6, ground := Ground.gcOnly Departure.lateStores }], guard := none }) (v := ?v25x5) rfl (by kernel_rfl) (by kernel_rfl) (by kernel_rfl) (fun _ _ _ h => h) (Or.inl ⟨by rfl, ?y25x5⟩) hn ?r25x5
  case y25x5 => (intro wS hS; (try go_simp); (try with_reducible rfl))
  try simp only [Act.put, List.setIfInBounds_toArray, List.set_cons_zero, List.set_cons_succ]
  refine wpAnyH_ready (rs := [5]) (by kernel_rfl) (by simp) ?_
  refine AllReadyH.cons (o := { dst := some 57, op := Op.load 3 (Operand.tmp 56), type := 3, pos := "ref.go:92", after := #[{ on := 4, ground := Ground.data }, { on := 6, ground := Ground.gcOnly Departure.lateStores }], guard := none }) rfl (fun K hK => ?_) AllReadyH.nil
  go_simp
  refine hK.out _ _ (by first | exact hn | exact Upd.alloc hn _) (fun hn => ?_)
  clear hK K
  try simp only [Act.put, List.setIfInBounds_toArray, List.set_cons_zero, List.set_cons_succ]
  refine wpAnyH_take (i := 7) (oi := { dst := some 3, op := Op.assign (Operand.tmp 57), type := 3, pos := "ref.go:92", after := #[{ on := 5, ground := Ground.data }, { on := 6, ground := Ground.chain }, { on := 0, ground := Ground.phase }, { on := 1, ground := Ground.phase }, { on := 2, ground := Ground.phase }, { on := 3, ground := Ground.phase }, { on := 4, ground := Ground.phase }, { on := 5, ground := Ground.phase }, { on := 6, ground := Ground.phase }], guard := none }) (v := ?v25x6) rfl (by kernel_rfl) (by kernel_rfl) (by kernel_rfl) (fun _ _ _ h => h) (Or.inl ⟨by rfl, ?y25x6⟩) hn ?r25x6
  case y25x6 => (intro wS hS; (try go_simp); (try with_reducible rfl))
  try simp only [Act.put, List.setIfInBounds_toArray, List.set_cons_zero, List.set_cons_succ]
  refine wpAnyH_done (by kernel_rfl) ?_ _
  refine NoPanic.normal ?_
  go_wp2_with fail
  go_ret2
  exact ⟨rfl, hn⟩
theorem rvector_90 (w : World) : Calls Try.prog 86 #[.int .i64 90] w (VecP (rvectorV 90) w) := by
  have e0 : IntKind.i64.wrap 0 = 0 := by decide
  have e1 : IntKind.i64.wrap 1 = 1 := by decide
  have e2 : IntKind.i64.wrap 2 = 2 := by decide
  have e3 : IntKind.i64.wrap 3 = 3 := by decide
  have e4 : IntKind.i64.wrap 4 = 4 := by decide
  have e5 : IntKind.i64.wrap 5 = 5 := by decide
  have e6 : IntKind.i64.wrap 6 = 6 := by decide
  have e7 : IntKind.i64.wrap 7 = 7 := by decide
  have e8 : IntKind.i64.wrap 8 = 8 := by decide
  have e9 : IntKind.i64.wrap 9 = 9 := by decide
  have e10 : IntKind.i64.wrap 10 = 10 := by decide
  have e11 : IntKind.i64.wrap 11 = 11 := by decide
  have e12 : IntKind.i64.wrap 12 = 12 := by decide
  have e13 : IntKind.i64.wrap 13 = 13 := by decide
  have t4 : Int.tmod 4 4 = 0 := by decide
  have t5 : Int.tmod 5 4 = 1 := by decide
  have t6 : Int.tmod 6 4 = 2 := by decide
  have t7 : Int.tmod 7 4 = 3 := by decide
  go_enter Try.func86, Try.ntmps86
  go_wp2_with fail
  have hn : New w w.drew := (Upd.refl _ _).drew
  refine wp_region_noPanic ?_
  refine wp_region_held_drew (S := (New w)) (by kernel_rfl) (by first | exact hn | exact (Upd.refl _ _).drew | exact Upd.drew (by assumption)) (fun hn => ?_)
  refine wpAnyH_take (i := 1) (oi := { dst := some 53, op := Op.move (Operand.tmp 0), type := 3, pos := "ref.go:92", after := #[{ on := 6, ground := Ground.gcOnly Departure.lateStores }], guard := none }) (v := ?v26x1) rfl (by kernel_rfl) (by kernel_rfl) (by kernel_rfl) (fun _ _ _ h => h) (Or.inl ⟨by rfl, ?y26x1⟩) hn ?r26x1
  case y26x1 => (intro wS hS; (try go_simp); (try with_reducible rfl))
  try simp only [Act.put, List.setIfInBounds_toArray, List.set_cons_zero, List.set_cons_succ]
  refine wpAnyH_take (i := 2) (oi := { dst := some 54, op := Op.binOp BinOp.sub 3 (Operand.tmp 53) (Operand.const (Value.int IntKind.i64 84)) 3, type := 3, pos := "ref.go:92", after := #[{ on := 1, ground := Ground.data }, { on := 6, ground := Ground.gcOnly Departure.lateStores }], guard := none }) (v := ?v26x2) rfl (by kernel_rfl) (by kernel_rfl) (by kernel_rfl) (fun _ _ _ h => h) (Or.inl ⟨by rfl, ?y26x2⟩) hn ?r26x2
  case y26x2 => (intro wS hS; (try go_simp); (try with_reducible rfl))
  try simp only [Act.put, List.setIfInBounds_toArray, List.set_cons_zero, List.set_cons_succ]
  refine wpAnyH_take (i := 3) (oi := { dst := some 55, op := Op.binOp BinOp.rem 3 (Operand.tmp 54) (Operand.const (Value.int IntKind.i64 4)) 3, type := 3, pos := "ref.go:92", after := #[{ on := 2, ground := Ground.data }, { on := 6, ground := Ground.gcOnly Departure.lateStores }], guard := none }) (v := ?v26x3) rfl (by kernel_rfl) (by kernel_rfl) (by kernel_rfl) (fun _ _ _ h => h) (Or.inl ⟨by rfl, ?y26x3⟩) hn ?r26x3
  case y26x3 => (intro wS hS; (try go_simp); (try with_reducible rfl))
  try simp only [Act.put, List.setIfInBounds_toArray, List.set_cons_zero, List.set_cons_succ]
  refine wpAnyH_take (i := 6) (oi := { dst := some 2, op := Op.assign (Operand.const (Value.int IntKind.i64 16)), type := 3, pos := "ref.go:92", after := #[{ on := 0, ground := Ground.textOnly Departure.lateStores }, { on := 1, ground := Ground.textOnly Departure.lateStores }, { on := 2, ground := Ground.textOnly Departure.lateStores }, { on := 3, ground := Ground.textOnly Departure.lateStores }, { on := 4, ground := Ground.textOnly Departure.lateStores }, { on := 5, ground := Ground.textOnly Departure.lateStores }], guard := none }) (v := ?v26x4) rfl (by kernel_rfl) (by kernel_rfl) (by kernel_rfl) (fun _ _ _ h => h) (Or.inl ⟨by rfl, ?y26x4⟩) hn ?r26x4
  case y26x4 => (intro wS hS; (try go_simp); (try with_reducible rfl))
  try simp only [Act.put, List.setIfInBounds_toArray, List.set_cons_zero, List.set_cons_succ]
  refine wpAnyH_ready (rs := [0]) (by kernel_rfl) (by simp) ?_
  refine AllReadyH.cons (o := { dst := some 52, op := Op.buildSlice 62 4 #[(0, Operand.const (Value.int IntKind.i64 16)), (1, Operand.const (Value.int IntKind.i64 8)), (2, Operand.const (Value.int IntKind.i64 4)), (3, Operand.const (Value.int IntKind.i64 2))], type := 62, pos := "ref.go:92", after := #[{ on := 6, ground := Ground.gcOnly Departure.lateStores }], guard := none }) rfl (fun K hK => ?_) AllReadyH.nil
  go_simp
  refine hK.out _ _ (by first | exact hn | exact Upd.alloc hn _) (fun hn => ?_)
  clear hK K
  try simp only [Act.put, List.setIfInBounds_toArray, List.set_cons_zero, List.set_cons_succ]
  refine wpAnyH_take (i := 4) (oi := { dst := some 56, op := Op.indexAddr 62 (Operand.tmp 52) (Operand.tmp 55), type := 0, pos := "ref.go:92", after := #[{ on := 0, ground := Ground.data }, { on := 3, ground := Ground.data }, { on := 6, ground := Ground.gcOnly Departure.lateStores }], guard := none }) (v := ?v26x5) rfl (by kernel_rfl) (by kernel_rfl) (by kernel_rfl) (fun _ _ _ h => h) (Or.inl ⟨by rfl, ?y26x5⟩) hn ?r26x5
  case y26x5 => (intro wS hS; (try go_simp); (try with_reducible rfl))
  try simp only [Act.put, List.setIfInBounds_toArray, List.set_cons_zero, List.set_cons_succ]
  refine wpAnyH_ready (rs := [5]) (by kernel_rfl) (by simp) ?_
  refine AllReadyH.cons (o := { dst := some 57, op := Op.load 3 (Operand.tmp 56), type := 3, pos := "ref.go:92", after := #[{ on := 4, ground := Ground.data }, { on := 6, ground := Ground.gcOnly Departure.lateStores }], guard := none }) rfl (fun K hK => ?_) AllReadyH.nil
  go_simp
  refine hK.out _ _ (by first | exact hn | exact Upd.alloc hn _) (fun hn => ?_)
  clear hK K
  try simp only [Act.put, List.setIfInBounds_toArray, List.set_cons_zero, List.set_cons_succ]
  refine wpAnyH_take (i := 7) (oi := { dst := some 3, op := Op.assign (Operand.tmp 57), type := 3, pos := "ref.go:92", after := #[{ on := 5, ground := Ground.data }, { on := 6, ground := Ground.chain }, { on := 0, ground := Ground.phase }, { on := 1, ground := Ground.phase }, { on := 2, ground := Ground.phase }, { on := 3, ground := Ground.phase }, { on := 4, ground := Ground.phase }, { on := 5, ground := Ground.phase }, { on := 6, ground := Ground.phase }], guard := none }) (v := ?v26x6) rfl (by kernel_rfl) (by kernel_rfl) (by kernel_rfl) (fun _ _ _ h => h) (Or.inl ⟨by rfl, ?y26x6⟩) hn ?r26x6
  case y26x6 => (intro wS hS; (try go_simp); (try with_reducible rfl))
  try simp only [Act.put, List.setIfInBounds_toArray, List.set_cons_zero, List.set_cons_succ]
  refine wpAnyH_done (by kernel_rfl) ?_ _
  refine NoPanic.normal ?_
  go_wp2_with fail
  go_ret2
  exact ⟨rfl, hn⟩
theorem rvector_91 (w : World) : Calls Try.prog 86 #[.int .i64 91] w (VecP (rvectorV 91) w) := by
  have e0 : IntKind.i64.wrap 0 = 0 := by decide
  have e1 : IntKind.i64.wrap 1 = 1 := by decide
  have e2 : IntKind.i64.wrap 2 = 2 := by decide
  have e3 : IntKind.i64.wrap 3 = 3 := by decide
  have e4 : IntKind.i64.wrap 4 = 4 := by decide
  have e5 : IntKind.i64.wrap 5 = 5 := by decide
  have e6 : IntKind.i64.wrap 6 = 6 := by decide
  have e7 : IntKind.i64.wrap 7 = 7 := by decide
  have e8 : IntKind.i64.wrap 8 = 8 := by decide
  have e9 : IntKind.i64.wrap 9 = 9 := by decide
  have e10 : IntKind.i64.wrap 10 = 10 := by decide
  have e11 : IntKind.i64.wrap 11 = 11 := by decide
  have e12 : IntKind.i64.wrap 12 = 12 := by decide
  have e13 : IntKind.i64.wrap 13 = 13 := by decide
  have t4 : Int.tmod 4 4 = 0 := by decide
  have t5 : Int.tmod 5 4 = 1 := by decide
  have t6 : Int.tmod 6 4 = 2 := by decide
  have t7 : Int.tmod 7 4 = 3 := by decide
  go_enter Try.func86, Try.ntmps86
  go_wp2_with fail
  have hn : New w w.drew := (Upd.refl _ _).drew
  refine wp_region_noPanic ?_
  refine wp_region_held_drew (S := (New w)) (by kernel_rfl) (by first | exact hn | exact (Upd.refl _ _).drew | exact Upd.drew (by assumption)) (fun hn => ?_)
  refine wpAnyH_take (i := 1) (oi := { dst := some 53, op := Op.move (Operand.tmp 0), type := 3, pos := "ref.go:92", after := #[{ on := 6, ground := Ground.gcOnly Departure.lateStores }], guard := none }) (v := ?v27x1) rfl (by kernel_rfl) (by kernel_rfl) (by kernel_rfl) (fun _ _ _ h => h) (Or.inl ⟨by rfl, ?y27x1⟩) hn ?r27x1
  case y27x1 => (intro wS hS; (try go_simp); (try with_reducible rfl))
  try simp only [Act.put, List.setIfInBounds_toArray, List.set_cons_zero, List.set_cons_succ]
  refine wpAnyH_take (i := 2) (oi := { dst := some 54, op := Op.binOp BinOp.sub 3 (Operand.tmp 53) (Operand.const (Value.int IntKind.i64 84)) 3, type := 3, pos := "ref.go:92", after := #[{ on := 1, ground := Ground.data }, { on := 6, ground := Ground.gcOnly Departure.lateStores }], guard := none }) (v := ?v27x2) rfl (by kernel_rfl) (by kernel_rfl) (by kernel_rfl) (fun _ _ _ h => h) (Or.inl ⟨by rfl, ?y27x2⟩) hn ?r27x2
  case y27x2 => (intro wS hS; (try go_simp); (try with_reducible rfl))
  try simp only [Act.put, List.setIfInBounds_toArray, List.set_cons_zero, List.set_cons_succ]
  refine wpAnyH_take (i := 3) (oi := { dst := some 55, op := Op.binOp BinOp.rem 3 (Operand.tmp 54) (Operand.const (Value.int IntKind.i64 4)) 3, type := 3, pos := "ref.go:92", after := #[{ on := 2, ground := Ground.data }, { on := 6, ground := Ground.gcOnly Departure.lateStores }], guard := none }) (v := ?v27x3) rfl (by kernel_rfl) (by kernel_rfl) (by kernel_rfl) (fun _ _ _ h => h) (Or.inl ⟨by rfl, ?y27x3⟩) hn ?r27x3
  case y27x3 => (intro wS hS; (try go_simp); (try with_reducible rfl))
  try simp only [Act.put, List.setIfInBounds_toArray, List.set_cons_zero, List.set_cons_succ]
  refine wpAnyH_take (i := 6) (oi := { dst := some 2, op := Op.assign (Operand.const (Value.int IntKind.i64 16)), type := 3, pos := "ref.go:92", after := #[{ on := 0, ground := Ground.textOnly Departure.lateStores }, { on := 1, ground := Ground.textOnly Departure.lateStores }, { on := 2, ground := Ground.textOnly Departure.lateStores }, { on := 3, ground := Ground.textOnly Departure.lateStores }, { on := 4, ground := Ground.textOnly Departure.lateStores }, { on := 5, ground := Ground.textOnly Departure.lateStores }], guard := none }) (v := ?v27x4) rfl (by kernel_rfl) (by kernel_rfl) (by kernel_rfl) (fun _ _ _ h => h) (Or.inl ⟨by rfl, ?y27x4⟩) hn ?r27x4
  case y27x4 => (intro wS hS; (try go_simp); (try with_reducible rfl))
  try simp only [Act.put, List.setIfInBounds_toArray, List.set_cons_zero, List.set_cons_succ]
  refine wpAnyH_ready (rs := [0]) (by kernel_rfl) (by simp) ?_
  refine AllReadyH.cons (o := { dst := some 52, op := Op.buildSlice 62 4 #[(0, Operand.const (Value.int IntKind.i64 16)), (1, Operand.const (Value.int IntKind.i64 8)), (2, Operand.const (Value.int IntKind.i64 4)), (3, Operand.const (Value.int IntKind.i64 2))], type := 62, pos := "ref.go:92", after := #[{ on := 6, ground := Ground.gcOnly Departure.lateStores }], guard := none }) rfl (fun K hK => ?_) AllReadyH.nil
  go_simp
  refine hK.out _ _ (by first | exact hn | exact Upd.alloc hn _) (fun hn => ?_)
  clear hK K
  try simp only [Act.put, List.setIfInBounds_toArray, List.set_cons_zero, List.set_cons_succ]
  refine wpAnyH_take (i := 4) (oi := { dst := some 56, op := Op.indexAddr 62 (Operand.tmp 52) (Operand.tmp 55), type := 0, pos := "ref.go:92", after := #[{ on := 0, ground := Ground.data }, { on := 3, ground := Ground.data }, { on := 6, ground := Ground.gcOnly Departure.lateStores }], guard := none }) (v := ?v27x5) rfl (by kernel_rfl) (by kernel_rfl) (by kernel_rfl) (fun _ _ _ h => h) (Or.inl ⟨by rfl, ?y27x5⟩) hn ?r27x5
  case y27x5 => (intro wS hS; (try go_simp); (try with_reducible rfl))
  try simp only [Act.put, List.setIfInBounds_toArray, List.set_cons_zero, List.set_cons_succ]
  refine wpAnyH_ready (rs := [5]) (by kernel_rfl) (by simp) ?_
  refine AllReadyH.cons (o := { dst := some 57, op := Op.load 3 (Operand.tmp 56), type := 3, pos := "ref.go:92", after := #[{ on := 4, ground := Ground.data }, { on := 6, ground := Ground.gcOnly Departure.lateStores }], guard := none }) rfl (fun K hK => ?_) AllReadyH.nil
  go_simp
  refine hK.out _ _ (by first | exact hn | exact Upd.alloc hn _) (fun hn => ?_)
  clear hK K
  try simp only [Act.put, List.setIfInBounds_toArray, List.set_cons_zero, List.set_cons_succ]
  refine wpAnyH_take (i := 7) (oi := { dst := some 3, op := Op.assign (Operand.tmp 57), type := 3, pos := "ref.go:92", after := #[{ on := 5, ground := Ground.data }, { on := 6, ground := Ground.chain }, { on := 0, ground := Ground.phase }, { on := 1, ground := Ground.phase }, { on := 2, ground := Ground.phase }, { on := 3, ground := Ground.phase }, { on := 4, ground := Ground.phase }, { on := 5, ground := Ground.phase }, { on := 6, ground := Ground.phase }], guard := none }) (v := ?v27x6) rfl (by kernel_rfl) (by kernel_rfl) (by kernel_rfl) (fun _ _ _ h => h) (Or.inl ⟨by rfl, ?y27x6⟩) hn ?r27x6
  case y27x6 => (intro wS hS; (try go_simp); (try with_reducible rfl))
  try simp only [Act.put, List.setIfInBounds_toArray, List.set_cons_zero, List.set_cons_succ]
  refine wpAnyH_done (by kernel_rfl) ?_ _
  refine NoPanic.normal ?_
  go_wp2_with fail
  go_ret2
  exact ⟨rfl, hn⟩

theorem rvector_lane (c : Int) (w : World) (c0 : 21 ≤ c) (c1 : c ≤ 34) : Calls Try.prog 86 #[.int .i64 c] w (VecP (rvectorV c) w) := by
  have : c = 21 ∨ c = 22 ∨ c = 23 ∨ c = 24 ∨ c = 25 ∨ c = 26 ∨ c = 27 ∨ c = 28 ∨ c = 29 ∨ c = 30 ∨ c = 31 ∨ c = 32 ∨ c = 33 ∨ c = 34 := by omega
  rcases this with rfl | rfl | rfl | rfl | rfl | rfl | rfl | rfl | rfl | rfl | rfl | rfl | rfl | rfl
  · exact rvector_21 w
  · exact rvector_22 w
  · exact rvector_23 w
  · exact rvector_24 w
  · exact rvector_25 w
  · exact rvector_26 w
  · exact rvector_27 w
  · exact rvector_28 w
  · exact rvector_29 w
  · exact rvector_30 w
  · exact rvector_31 w
  · exact rvector_32 w
  · exact rvector_33 w
  · exact rvector_34 w

theorem rvector_mem (c : Int) (w : World) (c0 : 84 ≤ c) (c1 : c ≤ 91) : Calls Try.prog 86 #[.int .i64 c] w (VecP (rvectorV c) w) := by
  have : c = 84 ∨ c = 85 ∨ c = 86 ∨ c = 87 ∨ c = 88 ∨ c = 89 ∨ c = 90 ∨ c = 91 := by omega
  rcases this with rfl | rfl | rfl | rfl | rfl | rfl | rfl | rfl
  · exact rvector_84 w
  · exact rvector_85 w
  · exact rvector_86 w
  · exact rvector_87 w
  · exact rvector_88 w
  · exact rvector_89 w
  · exact rvector_90 w
  · exact rvector_91 w

end Go.Proofs.Ytnngibflnnmioaa
