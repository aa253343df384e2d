/-
  The walks of ops: alone, Find.
-/
import Derived.Test.YtbllpajibhiobaaDoorJ1
import Derived.Deep.CutBlock
namespace Go.Proofs.YtbllpajibhiobaaDoor
open Go.RowKit Go.Proofs.Own
set_option maxRecDepth 100000
set_option maxHeartbeats 2000000

theorem mapStep {K : Act → World → Prop} {a : Act} {S W : World} (hn : New S W) (h : ∀ W2, New S W2 → MapIn W2 W.heap.size (fun _ => false) → K a W2) : K a (W.alloc (.map #[] 0)) :=
  h _ (hn.alloc _) (MapIn.made W)
theorem reL {P : Program} {md : Region.Mode} {ops : Array Oper} {Q : Exit → Act → World → Prop} {S : World → Prop} {f f' : Nat} {l l' : Array Bool} {a : Act} {w : World} (h1 : f = f') (h2 : l = l')
    (h : wpAnyH P md ops Q S f' l' a w) : wpAnyH P md ops Q S f l a w := by subst h1; subst h2; exact h

def AloneP (w : World) (e : Ending) (w' : World) : Prop := ∃ g, e = .returned (.map (some g)) ∧ New w w' ∧ MapIn w' g (fun _ => true)

theorem alone_any (w : World) : Calls Tryd.prog 67 #[] w (AloneP w) := by
  go_enter Tryd.func67, Tryd.ntmps67
  go_wp2_with fail
  have hn : New w w.drew := (Upd.refl _ _).drew
  refine wp_region_noPanic ?_
  refine wp_region_held_drew (S := (New w)) (by kernel_rfl) (by first | exact hn | exact (Upd.refl _ _).drew | exact Upd.drew (by assumption)) (fun hn => ?_)
  generalize w.drew = wd at *
  refine wpAnyH_take (i := 1) (oi := { dst := some 2, op := Op.build 87 #[(0, Operand.const (Value.int IntKind.u8 0)), (1, Operand.const (Value.int IntKind.u32 14))], type := 87, pos := "op.go:125", after := #[], guard := none }) (v := ?v1x1) rfl (by kernel_rfl) (by kernel_rfl) (by kernel_rfl) (fun _ _ _ h => h) (Or.inl ⟨by rfl, ?y1x1⟩) hn ?r1x1
  case y1x1 => (intro wS hS; (try go_simp); (try with_reducible rfl))
  try simp only [Act.put, List.setIfInBounds_toArray, List.set_cons_zero, List.set_cons_succ]
  refine wpAnyH_take (i := 3) (oi := { dst := some 3, op := Op.build 87 #[(0, Operand.const (Value.int IntKind.u8 0)), (1, Operand.const (Value.int IntKind.u32 28))], type := 87, pos := "op.go:125", after := #[], guard := none }) (v := ?v1x2) rfl (by kernel_rfl) (by kernel_rfl) (by kernel_rfl) (fun _ _ _ h => h) (Or.inl ⟨by rfl, ?y1x2⟩) hn ?r1x2
  case y1x2 => (intro wS hS; (try go_simp); (try with_reducible rfl))
  try simp only [Act.put, List.setIfInBounds_toArray, List.set_cons_zero, List.set_cons_succ]
  refine wpAnyH_take (i := 5) (oi := { dst := some 4, op := Op.build 87 #[(0, Operand.const (Value.int IntKind.u8 0)), (1, Operand.const (Value.int IntKind.u32 208))], type := 87, pos := "op.go:125", after := #[], guard := none }) (v := ?v1x3) rfl (by kernel_rfl) (by kernel_rfl) (by kernel_rfl) (fun _ _ _ h => h) (Or.inl ⟨by rfl, ?y1x3⟩) hn ?r1x3
  case y1x3 => (intro wS hS; (try go_simp); (try with_reducible rfl))
  try simp only [Act.put, List.setIfInBounds_toArray, List.set_cons_zero, List.set_cons_succ]
  refine wpAnyH_take (i := 7) (oi := { dst := some 5, op := Op.build 87 #[(0, Operand.const (Value.int IntKind.u8 252)), (1, Operand.const (Value.int IntKind.u32 8))], type := 87, pos := "op.go:125", after := #[], guard := none }) (v := ?v1x4) rfl (by kernel_rfl) (by kernel_rfl) (by kernel_rfl) (fun _ _ _ h => h) (Or.inl ⟨by rfl, ?y1x4⟩) hn ?r1x4
  case y1x4 => (intro wS hS; (try go_simp); (try with_reducible rfl))
  try simp only [Act.put, List.setIfInBounds_toArray, List.set_cons_zero, List.set_cons_succ]
  refine wpAnyH_take (i := 9) (oi := { dst := some 6, op := Op.build 87 #[(0, Operand.const (Value.int IntKind.u8 252)), (1, Operand.const (Value.int IntKind.u32 10))], type := 87, pos := "op.go:125", after := #[], guard := none }) (v := ?v1x5) rfl (by kernel_rfl) (by kernel_rfl) (by kernel_rfl) (fun _ _ _ h => h) (Or.inl ⟨by rfl, ?y1x5⟩) hn ?r1x5
  case y1x5 => (intro wS hS; (try go_simp); (try with_reducible rfl))
  try simp only [Act.put, List.setIfInBounds_toArray, List.set_cons_zero, List.set_cons_succ]
  refine wpAnyH_take (i := 11) (oi := { dst := some 7, op := Op.build 87 #[(0, Operand.const (Value.int IntKind.u8 253)), (1, Operand.const (Value.int IntKind.u32 12))], type := 87, pos := "op.go:125", after := #[], guard := none }) (v := ?v1x6) rfl (by kernel_rfl) (by kernel_rfl) (by kernel_rfl) (fun _ _ _ h => h) (Or.inl ⟨by rfl, ?y1x6⟩) hn ?r1x6
  case y1x6 => (intro wS hS; (try go_simp); (try with_reducible rfl))
  try simp only [Act.put, List.setIfInBounds_toArray, List.set_cons_zero, List.set_cons_succ]
  refine wpAnyH_take (i := 13) (oi := { dst := some 8, op := Op.build 87 #[(0, Operand.const (Value.int IntKind.u8 253)), (1, Operand.const (Value.int IntKind.u32 13))], type := 87, pos := "op.go:125", after := #[], guard := none }) (v := ?v1x7) rfl (by kernel_rfl) (by kernel_rfl) (by kernel_rfl) (fun _ _ _ h => h) (Or.inl ⟨by rfl, ?y1x7⟩) hn ?r1x7
  case y1x7 => (intro wS hS; (try go_simp); (try with_reducible rfl))
  try simp only [Act.put, List.setIfInBounds_toArray, List.set_cons_zero, List.set_cons_succ]
  refine wpAnyH_ready (rs := [0]) (by kernel_rfl) (by simp) ?_
  refine AllReadyH.cons (o := { dst := some 1, op := Op.makeMap 138 none, type := 138, pos := "op.go:125", after := #[], guard := none }) rfl (fun K hK => ?_) AllReadyH.nil
  have hmm := @run_makeMap Tryd.prog
  go_simp
  clear hmm
  refine absN hn ?_ hn.size
  intro g hg hf
  rw [hg] at hf ⊢
  refine mapStep hn ?_
  intro W2 hn hin
  rw [hg] at hin
  clear hg
  refine hK.out _ _ (by first | exact hn | exact Upd.alloc hn _) (fun hn => ?_)
  clear hK K
  try simp only [Act.put, List.setIfInBounds_toArray, List.set_cons_zero, List.set_cons_succ]
  refine reL (f' := 7 + 2) (l' := L 0) (by kernel_rfl) (by kernel_rfl) ?_
  refine inserts (g := g) ?_ rfl ?_ (by decide +kernel) (fun a b h hu => Upd.trans h hu (fun i hi e => by omega)) ?_ 7 0 (by decide) (by decide) _ (hin.congr fun j _ => (Nat.zero_testBit j).symm) hn
  · rintro ⟨q, hq⟩
    match q, hq with
    | 0, _ => exact ⟨_, rfl, rfl, rfl, rfl⟩
    | 1, _ => exact ⟨_, rfl, rfl, rfl, rfl⟩
    | 2, _ => exact ⟨_, rfl, rfl, rfl, rfl⟩
    | 3, _ => exact ⟨_, rfl, rfl, rfl, rfl⟩
    | 4, _ => exact ⟨_, rfl, rfl, rfl, rfl⟩
    | 5, _ => exact ⟨_, rfl, rfl, rfl, rfl⟩
    | 6, _ => exact ⟨_, rfl, rfl, rfl, rfl⟩
  · rintro ⟨q, hq⟩
    match q, hq with
    | 0, _ => rfl
    | 1, _ => rfl
    | 2, _ => rfl
    | 3, _ => rfl
    | 4, _ => rfl
    | 5, _ => rfl
    | 6, _ => rfl
  · intro w3 hin hn
    refine wpAnyH_take (i := 15) (oi := { dst := some 9, op := Op.move (Operand.tmp 1), type := 138, pos := "op.go:125", after := #[{ on := 0, ground := Ground.data }, { on := 1, ground := Ground.data }, { on := 2, ground := Ground.data }, { on := 3, ground := Ground.data }, { on := 4, ground := Ground.data }, { on := 5, ground := Ground.data }, { on := 6, ground := Ground.data }, { on := 7, ground := Ground.data }, { on := 8, ground := Ground.data }, { on := 9, ground := Ground.data }, { on := 10, ground := Ground.data }, { on := 11, ground := Ground.data }, { on := 12, ground := Ground.data }, { on := 13, ground := Ground.data }, { on := 14, ground := Ground.data }], guard := none }) (v := ?v2x1) rfl (by kernel_rfl) (by kernel_rfl) (by kernel_rfl) (fun _ _ _ h => h) (Or.inl ⟨by rfl, ?y2x1⟩) hn ?r2x1
    case y2x1 => (intro wS hS; (try go_simp); (try with_reducible rfl))
    try simp only [Act.put, List.setIfInBounds_toArray, List.set_cons_zero, List.set_cons_succ]
    refine wpAnyH_take (i := 16) (oi := { dst := some 0, op := Op.assign (Operand.tmp 9), type := 138, pos := "op.go:125", after := #[{ on := 15, ground := Ground.data }, { on := 0, ground := Ground.phase }, { on := 1, ground := Ground.phase }, { on := 2, ground := Ground.phase }, { on := 3, ground := Ground.phase }, { on := 4, ground := Ground.phase }, { on := 5, ground := Ground.phase }, { on := 6, ground := Ground.phase }, { on := 7, ground := Ground.phase }, { on := 8, ground := Ground.phase }, { on := 9, ground := Ground.phase }, { on := 10, ground := Ground.phase }, { on := 11, ground := Ground.phase }, { on := 12, ground := Ground.phase }, { on := 13, ground := Ground.phase }, { on := 14, ground := Ground.phase }, { on := 15, ground := Ground.phase }], guard := none }) (v := ?v2x2) rfl (by kernel_rfl) (by kernel_rfl) (by kernel_rfl) (fun _ _ _ h => h) (Or.inl ⟨by rfl, ?y2x2⟩) hn ?r2x2
    case y2x2 => (intro wS hS; (try go_simp); (try with_reducible rfl))
    try simp only [Act.put, List.setIfInBounds_toArray, List.set_cons_zero, List.set_cons_succ]
    refine wpAnyH_done (by kernel_rfl) ?_ _
    refine NoPanic.normal ?_
    go_wp2_with fail
    go_ret
    exact ⟨g, rfl, hn, hin⟩

def rowOr (r a : Int × Int × Bool) : Int × Int × Bool := if r.1 = -1 then a else r
def alV (p c : Int) : Int × Int × Bool := ((al p c).1, 0, (al p c).2)
def findV (p c : Int) : Int × Int × Bool :=
  if p = 0 then rowOr (plainV c, 0, true) (alV p c)
  else if p = 252 then rowOr (miscV c, 0, true) (alV p c)
  else if p = 253 then rowOr ((vectorV c).1, (vectorV c).2, true) (alV p c)
  else (0, 0, false)
def FindP (r : Int × Int × Bool) (w : World) (e : Ending) (w' : World) : Prop := e = .returned (.tuple #[.agg #[.int .i64 r.1, .int .i64 r.2.1], .bool r.2.2]) ∧ New w w'

/-- a function's end: two results, the first one a struct in a cell of its own -/
theorem ret_agg2 {P : Program} {fn : Func} {Q : Ending → World → Prop} {p q : Tmp} {ty : TypeId} {a : Act} {w : World} {d : TypeDesc} (h : fn.results = #[.cell p ty, .tmp q])
    (hu : P.underlying ty = some d) (hd : (match d with | .struct _ | .array _ _ => true | _ => false) = true) (g : Nat) (cs : Array Value) (t : TypeId) (v : Value) (hi : (P.info? ty).map (·.size) = some cs.size)
    (hdef : a.defers = []) (hp : a.tmps.getD p undef = .pointer (some ⟨g, 0, none⟩)) (hg : w.heap[g]? = some (.cells cs t)) (hq : a.tmps.getD q undef = v) (hQ : Q (.returned (.tuple #[.agg cs, v])) w) : bodyPost P fn Q .ret a w := by
  refine bodyPost_ret ?_ hdef hQ
  have hp' : a.tmps[p]?.getD undef = .pointer (some ⟨g, 0, none⟩) := by simpa using hp
  have hq' : a.tmps[q]?.getD undef = v := by simpa using hq
  simp [results, h, hp', hq', asAddr, run_loadVar_row w g t ty cs (0, 0) d hg hu hd hi]

theorem _root_.Go.Proofs.Own.Blk.keep {w : World} {g g' : Nat} {a b x y : Value} {t : TypeId} (h : Blk w g' a b t) (hne : g' ≠ g) : Blk ((w.setCell ⟨g, 0, none⟩ x).setCell ⟨g, 1, none⟩ y) g' a b t := by
  unfold Blk at h ⊢
  rw [Below.heap_setCell _ _ _ _ hne, Below.heap_setCell _ _ _ _ hne]
  exact h

theorem find_plain (c : Int) (w : World) (c0 : 0 ≤ c) (c1 : c < 4294967296) : Calls Tryd.prog 51 #[.agg #[.int .u8 0, .int .u32 c]] w (FindP (rowOr (plainV c, 0, true) (alV 0 c)) w) := by
  have HP := hid (fun w => plainRow_any c w c0 c1)
  obtain ⟨s, hs⟩ : ∃ s, plainV c = s := ⟨_, rfl⟩
  rw [hs] at HP ⊢
  clear hs
  obtain ⟨w3, hw3⟩ : ∃ w3, ((w.alloc (.cells #[.int .u8 0, .int .u32 c] 87)).alloc (.cells #[.int .i64 0, .int .i64 0] 123)).alloc (.cells #[.int .i64 0, .int .i64 0] 123) = w3 := ⟨_, rfl⟩
  have HN3 : Hid (New w w3) := by show New _ _; rw [← hw3]; exact (((Upd.refl _ _).alloc _).alloc _).alloc _
  have HB1 : Hid (Blk w3 w.heap.size (.int .u8 0) (.int .u32 c) 87) := by
    show Blk _ _ _ _ _
    rw [← hw3]
    exact Blk.new (Blk.mk (w := w)) (((Upd.refl _ _).alloc _).alloc _)
  have HB2 : Hid (Blk w3 (w.heap.size + 1) (.int .i64 0) (.int .i64 0) 123) := by
    show Blk _ _ _ _ _
    rw [← hw3]
    have h := Blk.mk (w := w.alloc (.cells #[.int .u8 0, .int .u32 c] 87)) (x := .int .i64 0) (y := .int .i64 0) (t := 123)
    simp only [World.size_alloc] at h
    exact Blk.new h ((Upd.refl _ _).alloc _)
  have HB4 : Hid (Blk w3 (w.heap.size + 1 + 1) (.int .i64 0) (.int .i64 0) 123) := by
    show Blk _ _ _ _ _
    rw [← hw3]
    have h := Blk.mk (w := (w.alloc (.cells #[.int .u8 0, .int .u32 c] 87)).alloc (.cells #[.int .i64 0, .int .i64 0] 123)) (x := .int .i64 0) (y := .int .i64 0) (t := 123)
    simp only [World.size_alloc] at h
    exact h
  have HW3 := hid hw3
  clear hw3
  go_enter Tryd.func51, Tryd.ntmps51
  go_upto_block 0 with fail
  rw [HW3.out]
  go_cut [11] (fun _ wx => New w wx ∧ Blk wx w.heap.size (.int .u8 0) (.int .u32 c) 87 ∧ Blk wx (w.heap.size + 1) (.int .i64 0) (.int .i64 0) 123 ∧ Blk wx (w.heap.size + 1 + 1) (.int .i64 s) (.int .i64 0) 123)
  case first =>
    have z1 := HB1.out.c1
    go_wp2_with fail
    refine (HP.out _).mono ?_
    rintro e wa ⟨rfl, hn⟩
    have hb4 := HB4.out.new hn
    have z2 := hb4.c0
    have z3 := hb4.c1
    have f2 := hb4.f 0
    have f3 := hb4.f 1
    go_wp2_with fail
    go_meet
    exact ⟨((New.trans HN3.out hn).setCell (.inl (by dsimp only; omega)) _).setCell (.inl (by dsimp only; omega)) _, (HB1.out.new hn).keep (by omega), (HB2.out.new hn).keep (by omega), Blk.put hb4⟩
  case rest =>
    obtain ⟨hw, hb1, hb2, hb4⟩ := hcut
    obtain ⟨w5, rfl⟩ : ∃ w5, w5 = wc := ⟨_, rfl⟩
    have z0 := hb4.c0
    have z1 := hb4.c1
    have B1 := hid hb1
    have B2 := hid hb2
    have HW := hid hw
    clear hb1 hb2 hb4 hw HN3 HB1 HB2 HB4 HW3
    by_cases h : s = -1
    · have hv : rowOr (s, 0, true) (alV 0 c) = alV 0 c := if_pos h
      have HV := hid hv
      subst h
      clear hv
      go_wp2_with fail
      clear z0 z1
      have y0 := hid B1.out.c0
      have y1 := hid B1.out.c1
      have hn : New w5 w5.drew := (Upd.refl _ _).drew
      refine wp_region_noPanic ?_
      refine wp_region_held_drew (S := (New w5)) (by kernel_rfl) (by first | exact hn | exact (Upd.refl _ _).drew | exact Upd.drew (by assumption)) (fun hn => ?_)
      refine wpAnyH_take (i := 1) (oi := { dst := some 32, op := Op.load 87 (Operand.tmp 1), type := 87, pos := "op.go:69", after := #[], guard := none }) (v := ?v3x1) rfl (by kernel_rfl) (by kernel_rfl) (by kernel_rfl) (fun _ _ _ h => h) (Or.inl ⟨by rfl, ?y3x1⟩) hn ?r3x1
      case y3x1 => (intro wS hS; have c0 := hS.cell y0.out (fun h => h); have c1 := hS.cell y1.out (fun h => h); (try go_simp); (try with_reducible rfl))
      try simp only [Act.put, List.setIfInBounds_toArray, List.set_cons_zero, List.set_cons_succ]
      refine wpAnyH_ready (rs := [0]) (by kernel_rfl) (by simp) ?_
      refine AllReadyH.cons (o := { dst := some 31, op := Op.call { callee := Callee.value (Operand.func 67), args := #[], argTypes := #[] }, type := 138, pos := "op.go:69", after := #[], guard := none }) rfl (fun K hK => ?_) AllReadyH.nil
      go_simp
      refine (alone_any _).mono ?_
      rintro e wa ⟨gm, rfl, hna, hin⟩
      go_wp2_with fail
      have hn := New.trans hn hna
      refine hK.out _ _ (by first | exact hn | exact Upd.alloc hn _) (fun hn => ?_)
      clear hK K
      try simp only [Act.put, List.setIfInBounds_toArray, List.set_cons_zero, List.set_cons_succ]
      refine wpAnyH_ready (rs := [2]) (by kernel_rfl) (by simp) ?_
      refine AllReadyH.cons (o := { dst := some 33, op := Op.lookup 138 (Operand.tmp 31) (Operand.tmp 32) true, type := 137, pos := "op.go:69", after := #[{ on := 0, ground := Ground.data }, { on := 1, ground := Ground.data }], guard := none }) rfl (fun K hK => ?_) AllReadyH.nil
      have hlk := look_run hin 0 c (by decide) (by decide) c0 c1
      unfold ky at hlk
      go_simp
      clear hlk
      refine hK.out _ _ (by first | exact hn | exact Upd.alloc hn _) (fun hn => ?_)
      clear hK K
      try simp only [Act.put, List.setIfInBounds_toArray, List.set_cons_zero, List.set_cons_succ]
      refine wpAnyH_take (i := 3) (oi := { dst := some 30, op := Op.move (Operand.tmp 33), type := 137, pos := "op.go:69", after := #[{ on := 2, ground := Ground.data }], guard := none }) (v := ?v3x2) rfl (by kernel_rfl) (by kernel_rfl) (by kernel_rfl) (fun _ _ _ h => h) (Or.inl ⟨by rfl, ?y3x2⟩) hn ?r3x2
      case y3x2 => (intro wS hS; (try go_simp); (try with_reducible rfl))
      try simp only [Act.put, List.setIfInBounds_toArray, List.set_cons_zero, List.set_cons_succ]
      refine wpAnyH_take (i := 4) (oi := { dst := some 34, op := Op.extract (Operand.tmp 30) 0, type := 3, pos := "op.go:69", after := #[{ on := 3, ground := Ground.data }], guard := none }) (v := ?v3x3) rfl (by kernel_rfl) (by kernel_rfl) (by kernel_rfl) (fun _ _ _ h => h) (Or.inl ⟨by rfl, ?y3x3⟩) hn ?r3x3
      case y3x3 => (intro wS hS; (try go_simp); (try with_reducible rfl))
      try simp only [Act.put, List.setIfInBounds_toArray, List.set_cons_zero, List.set_cons_succ]
      refine wpAnyH_take (i := 5) (oi := { dst := some 35, op := Op.extract (Operand.tmp 30) 1, type := 4, pos := "op.go:69", after := #[{ on := 3, ground := Ground.data }, { on := 6, ground := Ground.gcOnly Departure.lateStores }], guard := none }) (v := ?v3x4) rfl (by kernel_rfl) (by kernel_rfl) (by kernel_rfl) (fun _ _ _ h => h) (Or.inl ⟨by rfl, ?y3x4⟩) hn ?r3x4
      case y3x4 => (intro wS hS; (try go_simp); (try with_reducible rfl))
      try simp only [Act.put, List.setIfInBounds_toArray, List.set_cons_zero, List.set_cons_succ]
      refine wpAnyH_take (i := 6) (oi := { dst := some 5, op := Op.assign (Operand.tmp 34), type := 3, pos := "op.go:69", after := #[{ on := 4, ground := Ground.data }, { on := 0, ground := Ground.chain }, { on := 0, ground := Ground.phase }, { on := 1, ground := Ground.phase }, { on := 2, ground := Ground.phase }, { on := 3, ground := Ground.phase }, { on := 4, ground := Ground.phase }, { on := 5, ground := Ground.textOnly Departure.lateStores }], guard := none }) (v := ?v3x5) rfl (by kernel_rfl) (by kernel_rfl) (by kernel_rfl) (fun _ _ _ h => h) (Or.inl ⟨by rfl, ?y3x5⟩) hn ?r3x5
      case y3x5 => (intro wS hS; (try go_simp); (try with_reducible rfl))
      try simp only [Act.put, List.setIfInBounds_toArray, List.set_cons_zero, List.set_cons_succ]
      refine wpAnyH_take (i := 7) (oi := { dst := some 6, op := Op.assign (Operand.tmp 35), type := 4, pos := "op.go:69", after := #[{ on := 5, ground := Ground.data }, { on := 6, ground := Ground.chain }, { on := 0, ground := Ground.phase }, { on := 1, ground := Ground.phase }, { on := 2, ground := Ground.phase }, { on := 3, ground := Ground.phase }, { on := 4, ground := Ground.phase }, { on := 5, ground := Ground.phase }, { on := 6, ground := Ground.phase }], guard := none }) (v := ?v3x6) rfl (by kernel_rfl) (by kernel_rfl) (by kernel_rfl) (fun _ _ _ h => h) (Or.inl ⟨by rfl, ?y3x6⟩) hn ?r3x6
      case y3x6 => (intro wS hS; (try go_simp); (try with_reducible rfl))
      try simp only [Act.put, List.setIfInBounds_toArray, List.set_cons_zero, List.set_cons_succ]
      refine wpAnyH_done (by kernel_rfl) ?_ _
      refine NoPanic.normal ?_
      have hb2 := B2.out.new hn
      have z2 := hb2.c0
      have z3 := hb2.c1
      have f2 := hb2.f 0
      have f3 := hb2.f 1
      go_wp2_with fail
      refine ret_agg2 rfl Tryd.underlying123 rfl (w.heap.size + 1) _ _ _ ?_ rfl rfl (Blk.put hb2) rfl ⟨?_, ?_⟩
      · kernel_rfl
      · rw [HV.out]; rfl
      · exact ((New.trans HW.out hn).setCell (.inl (by dsimp only; omega)) _).setCell (.inl (by dsimp only; omega)) _
    · have hv : rowOr (s, 0, true) (alV 0 c) = (s, 0, true) := if_neg h
      have HV := hid hv
      have hs : (s != -1) = true := bne_iff_ne.mpr h
      clear hv h
      have z2 := B2.out.c0
      have z3 := B2.out.c1
      have f2 := B2.out.f 0
      have f3 := B2.out.f 1
      go_wp2_with fail
      refine ret_agg2 rfl Tryd.underlying123 rfl (w.heap.size + 1) _ _ _ ?_ rfl rfl (Blk.put B2.out) rfl ⟨?_, ?_⟩
      · kernel_rfl
      · rw [HV.out]; rfl
      · exact (HW.out.setCell (.inl (by dsimp only; omega)) _).setCell (.inl (by dsimp only; omega)) _

theorem find_misc (c : Int) (w : World) (c0 : 0 ≤ c) (c1 : c < 4294967296) : Calls Tryd.prog 51 #[.agg #[.int .u8 252, .int .u32 c]] w (FindP (rowOr (miscV c, 0, true) (alV 252 c)) w) := by
  have HP := hid (fun w => miscRow_any c w c0 c1)
  obtain ⟨s, hs⟩ : ∃ s, miscV c = s := ⟨_, rfl⟩
  rw [hs] at HP ⊢
  clear hs
  obtain ⟨w3, hw3⟩ : ∃ w3, ((w.alloc (.cells #[.int .u8 252, .int .u32 c] 87)).alloc (.cells #[.int .i64 0, .int .i64 0] 123)).alloc (.cells #[.int .i64 0, .int .i64 0] 123) = w3 := ⟨_, rfl⟩
  have HN3 : Hid (New w w3) := by show New _ _; rw [← hw3]; exact (((Upd.refl _ _).alloc _).alloc _).alloc _
  have HB1 : Hid (Blk w3 w.heap.size (.int .u8 252) (.int .u32 c) 87) := by
    show Blk _ _ _ _ _
    rw [← hw3]
    exact Blk.new (Blk.mk (w := w)) (((Upd.refl _ _).alloc _).alloc _)
  have HB2 : Hid (Blk w3 (w.heap.size + 1) (.int .i64 0) (.int .i64 0) 123) := by
    show Blk _ _ _ _ _
    rw [← hw3]
    have h := Blk.mk (w := w.alloc (.cells #[.int .u8 252, .int .u32 c] 87)) (x := .int .i64 0) (y := .int .i64 0) (t := 123)
    simp only [World.size_alloc] at h
    exact Blk.new h ((Upd.refl _ _).alloc _)
  have HB4 : Hid (Blk w3 (w.heap.size + 1 + 1) (.int .i64 0) (.int .i64 0) 123) := by
    show Blk _ _ _ _ _
    rw [← hw3]
    have h := Blk.mk (w := (w.alloc (.cells #[.int .u8 252, .int .u32 c] 87)).alloc (.cells #[.int .i64 0, .int .i64 0] 123)) (x := .int .i64 0) (y := .int .i64 0) (t := 123)
    simp only [World.size_alloc] at h
    exact h
  have HW3 := hid hw3
  clear hw3
  go_enter Tryd.func51, Tryd.ntmps51
  go_upto_block 0 with fail
  rw [HW3.out]
  go_cut [11] (fun _ wx => New w wx ∧ Blk wx w.heap.size (.int .u8 252) (.int .u32 c) 87 ∧ Blk wx (w.heap.size + 1) (.int .i64 0) (.int .i64 0) 123 ∧ Blk wx (w.heap.size + 1 + 1) (.int .i64 s) (.int .i64 0) 123)
  case first =>
    have z1 := HB1.out.c1
    go_wp2_with fail
    refine (HP.out _).mono ?_
    rintro e wa ⟨rfl, hn⟩
    have hb4 := HB4.out.new hn
    have z2 := hb4.c0
    have z3 := hb4.c1
    have f2 := hb4.f 0
    have f3 := hb4.f 1
    go_wp2_with fail
    go_meet
    exact ⟨((New.trans HN3.out hn).setCell (.inl (by dsimp only; omega)) _).setCell (.inl (by dsimp only; omega)) _, (HB1.out.new hn).keep (by omega), (HB2.out.new hn).keep (by omega), Blk.put hb4⟩
  case rest =>
    obtain ⟨hw, hb1, hb2, hb4⟩ := hcut
    obtain ⟨w5, rfl⟩ : ∃ w5, w5 = wc := ⟨_, rfl⟩
    have z0 := hb4.c0
    have z1 := hb4.c1
    have B1 := hid hb1
    have B2 := hid hb2
    have HW := hid hw
    clear hb1 hb2 hb4 hw HN3 HB1 HB2 HB4 HW3
    by_cases h : s = -1
    · have hv : rowOr (s, 0, true) (alV 252 c) = alV 252 c := if_pos h
      have HV := hid hv
      subst h
      clear hv
      go_wp2_with fail
      clear z0 z1
      have y0 := hid B1.out.c0
      have y1 := hid B1.out.c1
      have hn : New w5 w5.drew := (Upd.refl _ _).drew
      refine wp_region_noPanic ?_
      refine wp_region_held_drew (S := (New w5)) (by kernel_rfl) (by first | exact hn | exact (Upd.refl _ _).drew | exact Upd.drew (by assumption)) (fun hn => ?_)
      refine wpAnyH_take (i := 1) (oi := { dst := some 32, op := Op.load 87 (Operand.tmp 1), type := 87, pos := "op.go:69", after := #[], guard := none }) (v := ?v4x1) rfl (by kernel_rfl) (by kernel_rfl) (by kernel_rfl) (fun _ _ _ h => h) (Or.inl ⟨by rfl, ?y4x1⟩) hn ?r4x1
      case y4x1 => (intro wS hS; have c0 := hS.cell y0.out (fun h => h); have c1 := hS.cell y1.out (fun h => h); (try go_simp); (try with_reducible rfl))
      try simp only [Act.put, List.setIfInBounds_toArray, List.set_cons_zero, List.set_cons_succ]
      refine wpAnyH_ready (rs := [0]) (by kernel_rfl) (by simp) ?_
      refine AllReadyH.cons (o := { dst := some 31, op := Op.call { callee := Callee.value (Operand.func 67), args := #[], argTypes := #[] }, type := 138, pos := "op.go:69", after := #[], guard := none }) rfl (fun K hK => ?_) AllReadyH.nil
      go_simp
      refine (alone_any _).mono ?_
      rintro e wa ⟨gm, rfl, hna, hin⟩
      go_wp2_with fail
      have hn := New.trans hn hna
      refine hK.out _ _ (by first | exact hn | exact Upd.alloc hn _) (fun hn => ?_)
      clear hK K
      try simp only [Act.put, List.setIfInBounds_toArray, List.set_cons_zero, List.set_cons_succ]
      refine wpAnyH_ready (rs := [2]) (by kernel_rfl) (by simp) ?_
      refine AllReadyH.cons (o := { dst := some 33, op := Op.lookup 138 (Operand.tmp 31) (Operand.tmp 32) true, type := 137, pos := "op.go:69", after := #[{ on := 0, ground := Ground.data }, { on := 1, ground := Ground.data }], guard := none }) rfl (fun K hK => ?_) AllReadyH.nil
      have hlk := look_run hin 252 c (by decide) (by decide) c0 c1
      unfold ky at hlk
      go_simp
      clear hlk
      refine hK.out _ _ (by first | exact hn | exact Upd.alloc hn _) (fun hn => ?_)
      clear hK K
      try simp only [Act.put, List.setIfInBounds_toArray, List.set_cons_zero, List.set_cons_succ]
      refine wpAnyH_take (i := 3) (oi := { dst := some 30, op := Op.move (Operand.tmp 33), type := 137, pos := "op.go:69", after := #[{ on := 2, ground := Ground.data }], guard := none }) (v := ?v4x2) rfl (by kernel_rfl) (by kernel_rfl) (by kernel_rfl) (fun _ _ _ h => h) (Or.inl ⟨by rfl, ?y4x2⟩) hn ?r4x2
      case y4x2 => (intro wS hS; (try go_simp); (try with_reducible rfl))
      try simp only [Act.put, List.setIfInBounds_toArray, List.set_cons_zero, List.set_cons_succ]
      refine wpAnyH_take (i := 4) (oi := { dst := some 34, op := Op.extract (Operand.tmp 30) 0, type := 3, pos := "op.go:69", after := #[{ on := 3, ground := Ground.data }], guard := none }) (v := ?v4x3) rfl (by kernel_rfl) (by kernel_rfl) (by kernel_rfl) (fun _ _ _ h => h) (Or.inl ⟨by rfl, ?y4x3⟩) hn ?r4x3
      case y4x3 => (intro wS hS; (try go_simp); (try with_reducible rfl))
      try simp only [Act.put, List.setIfInBounds_toArray, List.set_cons_zero, List.set_cons_succ]
      refine wpAnyH_take (i := 5) (oi := { dst := some 35, op := Op.extract (Operand.tmp 30) 1, type := 4, pos := "op.go:69", after := #[{ on := 3, ground := Ground.data }, { on := 6, ground := Ground.gcOnly Departure.lateStores }], guard := none }) (v := ?v4x4) rfl (by kernel_rfl) (by kernel_rfl) (by kernel_rfl) (fun _ _ _ h => h) (Or.inl ⟨by rfl, ?y4x4⟩) hn ?r4x4
      case y4x4 => (intro wS hS; (try go_simp); (try with_reducible rfl))
      try simp only [Act.put, List.setIfInBounds_toArray, List.set_cons_zero, List.set_cons_succ]
      refine wpAnyH_take (i := 6) (oi := { dst := some 5, op := Op.assign (Operand.tmp 34), type := 3, pos := "op.go:69", after := #[{ on := 4, ground := Ground.data }, { on := 0, ground := Ground.chain }, { on := 0, ground := Ground.phase }, { on := 1, ground := Ground.phase }, { on := 2, ground := Ground.phase }, { on := 3, ground := Ground.phase }, { on := 4, ground := Ground.phase }, { on := 5, ground := Ground.textOnly Departure.lateStores }], guard := none }) (v := ?v4x5) rfl (by kernel_rfl) (by kernel_rfl) (by kernel_rfl) (fun _ _ _ h => h) (Or.inl ⟨by rfl, ?y4x5⟩) hn ?r4x5
      case y4x5 => (intro wS hS; (try go_simp); (try with_reducible rfl))
      try simp only [Act.put, List.setIfInBounds_toArray, List.set_cons_zero, List.set_cons_succ]
      refine wpAnyH_take (i := 7) (oi := { dst := some 6, op := Op.assign (Operand.tmp 35), type := 4, pos := "op.go:69", after := #[{ on := 5, ground := Ground.data }, { on := 6, ground := Ground.chain }, { on := 0, ground := Ground.phase }, { on := 1, ground := Ground.phase }, { on := 2, ground := Ground.phase }, { on := 3, ground := Ground.phase }, { on := 4, ground := Ground.phase }, { on := 5, ground := Ground.phase }, { on := 6, ground := Ground.phase }], guard := none }) (v := ?v4x6) rfl (by kernel_rfl) (by kernel_rfl) (by kernel_rfl) (fun _ _ _ h => h) (Or.inl ⟨by rfl, ?y4x6⟩) hn ?r4x6
      case y4x6 => (intro wS hS; (try go_simp); (try with_reducible rfl))
      try simp only [Act.put, List.setIfInBounds_toArray, List.set_cons_zero, List.set_cons_succ]
      refine wpAnyH_done (by kernel_rfl) ?_ _
      refine NoPanic.normal ?_
      have hb2 := B2.out.new hn
      have z2 := hb2.c0
      have z3 := hb2.c1
      have f2 := hb2.f 0
      have f3 := hb2.f 1
      go_wp2_with fail
      refine ret_agg2 rfl Tryd.underlying123 rfl (w.heap.size + 1) _ _ _ ?_ rfl rfl (Blk.put hb2) rfl ⟨?_, ?_⟩
      · kernel_rfl
      · rw [HV.out]; rfl
      · exact ((New.trans HW.out hn).setCell (.inl (by dsimp only; omega)) _).setCell (.inl (by dsimp only; omega)) _
    · have hv : rowOr (s, 0, true) (alV 252 c) = (s, 0, true) := if_neg h
      have HV := hid hv
      have hs : (s != -1) = true := bne_iff_ne.mpr h
      clear hv h
      have z2 := B2.out.c0
      have z3 := B2.out.c1
      have f2 := B2.out.f 0
      have f3 := B2.out.f 1
      go_wp2_with fail
      refine ret_agg2 rfl Tryd.underlying123 rfl (w.heap.size + 1) _ _ _ ?_ rfl rfl (Blk.put B2.out) rfl ⟨?_, ?_⟩
      · kernel_rfl
      · rw [HV.out]; rfl
      · exact (HW.out.setCell (.inl (by dsimp only; omega)) _).setCell (.inl (by dsimp only; omega)) _

theorem find_vector (c : Int) (w : World) (c0 : 0 ≤ c) (c1 : c < 4294967296) : Calls Tryd.prog 51 #[.agg #[.int .u8 253, .int .u32 c]] w (FindP (rowOr ((vectorV c).1, (vectorV c).2, true) (alV 253 c)) w) := by
  have HP := hid (fun w => vectorRow_any c w c0 c1)
  obtain ⟨s, hs⟩ : ∃ s, (vectorV c).1 = s := ⟨_, rfl⟩
  obtain ⟨l, hl⟩ : ∃ l, (vectorV c).2 = l := ⟨_, rfl⟩
  rw [hs, hl] at HP ⊢
  clear hs hl
  obtain ⟨w3, hw3⟩ : ∃ w3, ((w.alloc (.cells #[.int .u8 253, .int .u32 c] 87)).alloc (.cells #[.int .i64 0, .int .i64 0] 123)).alloc (.cells #[.int .i64 0, .int .i64 0] 123) = w3 := ⟨_, rfl⟩
  have HN3 : Hid (New w w3) := by show New _ _; rw [← hw3]; exact (((Upd.refl _ _).alloc _).alloc _).alloc _
  have HB1 : Hid (Blk w3 w.heap.size (.int .u8 253) (.int .u32 c) 87) := by
    show Blk _ _ _ _ _
    rw [← hw3]
    exact Blk.new (Blk.mk (w := w)) (((Upd.refl _ _).alloc _).alloc _)
  have HB2 : Hid (Blk w3 (w.heap.size + 1) (.int .i64 0) (.int .i64 0) 123) := by
    show Blk _ _ _ _ _
    rw [← hw3]
    have h := Blk.mk (w := w.alloc (.cells #[.int .u8 253, .int .u32 c] 87)) (x := .int .i64 0) (y := .int .i64 0) (t := 123)
    simp only [World.size_alloc] at h
    exact Blk.new h ((Upd.refl _ _).alloc _)
  have HB4 : Hid (Blk w3 (w.heap.size + 1 + 1) (.int .i64 0) (.int .i64 0) 123) := by
    show Blk _ _ _ _ _
    rw [← hw3]
    have h := Blk.mk (w := (w.alloc (.cells #[.int .u8 253, .int .u32 c] 87)).alloc (.cells #[.int .i64 0, .int .i64 0] 123)) (x := .int .i64 0) (y := .int .i64 0) (t := 123)
    simp only [World.size_alloc] at h
    exact h
  have HW3 := hid hw3
  clear hw3
  go_enter Tryd.func51, Tryd.ntmps51
  go_upto_block 0 with fail
  rw [HW3.out]
  go_cut [11] (fun _ wx => New w wx ∧ Blk wx w.heap.size (.int .u8 253) (.int .u32 c) 87 ∧ Blk wx (w.heap.size + 1) (.int .i64 0) (.int .i64 0) 123 ∧ Blk wx (w.heap.size + 1 + 1) (.int .i64 s) (.int .i64 l) 123)
  case first =>
    have z1 := HB1.out.c1
    go_wp2_with fail
    refine (HP.out _).mono ?_
    rintro e wa ⟨rfl, hn⟩
    have hb4 := HB4.out.new hn
    have z2 := hb4.c0
    have z3 := hb4.c1
    have f2 := hb4.f 0
    have f3 := hb4.f 1
    go_wp2_with fail
    go_meet
    exact ⟨((New.trans HN3.out hn).setCell (.inl (by dsimp only; omega)) _).setCell (.inl (by dsimp only; omega)) _, (HB1.out.new hn).keep (by omega), (HB2.out.new hn).keep (by omega), Blk.put hb4⟩
  case rest =>
    obtain ⟨hw, hb1, hb2, hb4⟩ := hcut
    obtain ⟨w5, rfl⟩ : ∃ w5, w5 = wc := ⟨_, rfl⟩
    have z0 := hb4.c0
    have z1 := hb4.c1
    have B1 := hid hb1
    have B2 := hid hb2
    have HW := hid hw
    clear hb1 hb2 hb4 hw HN3 HB1 HB2 HB4 HW3
    by_cases h : s = -1
    · have hv : rowOr (s, l, true) (alV 253 c) = alV 253 c := if_pos h
      have HV := hid hv
      subst h
      clear hv
      go_wp2_with fail
      clear z0 z1
      have y0 := hid B1.out.c0
      have y1 := hid B1.out.c1
      have hn : New w5 w5.drew := (Upd.refl _ _).drew
      refine wp_region_noPanic ?_
      refine wp_region_held_drew (S := (New w5)) (by kernel_rfl) (by first | exact hn | exact (Upd.refl _ _).drew | exact Upd.drew (by assumption)) (fun hn => ?_)
      refine wpAnyH_take (i := 1) (oi := { dst := some 32, op := Op.load 87 (Operand.tmp 1), type := 87, pos := "op.go:69", after := #[], guard := none }) (v := ?v5x1) rfl (by kernel_rfl) (by kernel_rfl) (by kernel_rfl) (fun _ _ _ h => h) (Or.inl ⟨by rfl, ?y5x1⟩) hn ?r5x1
      case y5x1 => (intro wS hS; have c0 := hS.cell y0.out (fun h => h); have c1 := hS.cell y1.out (fun h => h); (try go_simp); (try with_reducible rfl))
      try simp only [Act.put, List.setIfInBounds_toArray, List.set_cons_zero, List.set_cons_succ]
      refine wpAnyH_ready (rs := [0]) (by kernel_rfl) (by simp) ?_
      refine AllReadyH.cons (o := { dst := some 31, op := Op.call { callee := Callee.value (Operand.func 67), args := #[], argTypes := #[] }, type := 138, pos := "op.go:69", after := #[], guard := none }) rfl (fun K hK => ?_) AllReadyH.nil
      go_simp
      refine (alone_any _).mono ?_
      rintro e wa ⟨gm, rfl, hna, hin⟩
      go_wp2_with fail
      have hn := New.trans hn hna
      refine hK.out _ _ (by first | exact hn | exact Upd.alloc hn _) (fun hn => ?_)
      clear hK K
      try simp only [Act.put, List.setIfInBounds_toArray, List.set_cons_zero, List.set_cons_succ]
      refine wpAnyH_ready (rs := [2]) (by kernel_rfl) (by simp) ?_
      refine AllReadyH.cons (o := { dst := some 33, op := Op.lookup 138 (Operand.tmp 31) (Operand.tmp 32) true, type := 137, pos := "op.go:69", after := #[{ on := 0, ground := Ground.data }, { on := 1, ground := Ground.data }], guard := none }) rfl (fun K hK => ?_) AllReadyH.nil
      have hlk := look_run hin 253 c (by decide) (by decide) c0 c1
      unfold ky at hlk
      go_simp
      clear hlk
      refine hK.out _ _ (by first | exact hn | exact Upd.alloc hn _) (fun hn => ?_)
      clear hK K
      try simp only [Act.put, List.setIfInBounds_toArray, List.set_cons_zero, List.set_cons_succ]
      refine wpAnyH_take (i := 3) (oi := { dst := some 30, op := Op.move (Operand.tmp 33), type := 137, pos := "op.go:69", after := #[{ on := 2, ground := Ground.data }], guard := none }) (v := ?v5x2) rfl (by kernel_rfl) (by kernel_rfl) (by kernel_rfl) (fun _ _ _ h => h) (Or.inl ⟨by rfl, ?y5x2⟩) hn ?r5x2
      case y5x2 => (intro wS hS; (try go_simp); (try with_reducible rfl))
      try simp only [Act.put, List.setIfInBounds_toArray, List.set_cons_zero, List.set_cons_succ]
      refine wpAnyH_take (i := 4) (oi := { dst := some 34, op := Op.extract (Operand.tmp 30) 0, type := 3, pos := "op.go:69", after := #[{ on := 3, ground := Ground.data }], guard := none }) (v := ?v5x3) rfl (by kernel_rfl) (by kernel_rfl) (by kernel_rfl) (fun _ _ _ h => h) (Or.inl ⟨by rfl, ?y5x3⟩) hn ?r5x3
      case y5x3 => (intro wS hS; (try go_simp); (try with_reducible rfl))
      try simp only [Act.put, List.setIfInBounds_toArray, List.set_cons_zero, List.set_cons_succ]
      refine wpAnyH_take (i := 5) (oi := { dst := some 35, op := Op.extract (Operand.tmp 30) 1, type := 4, pos := "op.go:69", after := #[{ on := 3, ground := Ground.data }, { on := 6, ground := Ground.gcOnly Departure.lateStores }], guard := none }) (v := ?v5x4) rfl (by kernel_rfl) (by kernel_rfl) (by kernel_rfl) (fun _ _ _ h => h) (Or.inl ⟨by rfl, ?y5x4⟩) hn ?r5x4
      case y5x4 => (intro wS hS; (try go_simp); (try with_reducible rfl))
      try simp only [Act.put, List.setIfInBounds_toArray, List.set_cons_zero, List.set_cons_succ]
      refine wpAnyH_take (i := 6) (oi := { dst := some 5, op := Op.assign (Operand.tmp 34), type := 3, pos := "op.go:69", after := #[{ on := 4, ground := Ground.data }, { on := 0, ground := Ground.chain }, { on := 0, ground := Ground.phase }, { on := 1, ground := Ground.phase }, { on := 2, ground := Ground.phase }, { on := 3, ground := Ground.phase }, { on := 4, ground := Ground.phase }, { on := 5, ground := Ground.textOnly Departure.lateStores }], guard := none }) (v := ?v5x5) rfl (by kernel_rfl) (by kernel_rfl) (by kernel_rfl) (fun _ _ _ h => h) (Or.inl ⟨by rfl, ?y5x5⟩) hn ?r5x5
      case y5x5 => (intro wS hS; (try go_simp); (try with_reducible rfl))
      try simp only [Act.put, List.setIfInBounds_toArray, List.set_cons_zero, List.set_cons_succ]
      refine wpAnyH_take (i := 7) (oi := { dst := some 6, op := Op.assign (Operand.tmp 35), type := 4, pos := "op.go:69", after := #[{ on := 5, ground := Ground.data }, { on := 6, ground := Ground.chain }, { on := 0, ground := Ground.phase }, { on := 1, ground := Ground.phase }, { on := 2, ground := Ground.phase }, { on := 3, ground := Ground.phase }, { on := 4, ground := Ground.phase }, { on := 5, ground := Ground.phase }, { on := 6, ground := Ground.phase }], guard := none }) (v := ?v5x6) rfl (by kernel_rfl) (by kernel_rfl) (by kernel_rfl) (fun _ _ _ h => h) (Or.inl ⟨by rfl, ?y5x6⟩) hn ?r5x6
      case y5x6 => (intro wS hS; (try go_simp); (try with_reducible rfl))
      try simp only [Act.put, List.setIfInBounds_toArray, List.set_cons_zero, List.set_cons_succ]
      refine wpAnyH_done (by kernel_rfl) ?_ _
      refine NoPanic.normal ?_
      have hb2 := B2.out.new hn
      have z2 := hb2.c0
      have z3 := hb2.c1
      have f2 := hb2.f 0
      have f3 := hb2.f 1
      go_wp2_with fail
      refine ret_agg2 rfl Tryd.underlying123 rfl (w.heap.size + 1) _ _ _ ?_ rfl rfl (Blk.put hb2) rfl ⟨?_, ?_⟩
      · kernel_rfl
      · rw [HV.out]; rfl
      · exact ((New.trans HW.out hn).setCell (.inl (by dsimp only; omega)) _).setCell (.inl (by dsimp only; omega)) _
    · have hv : rowOr (s, l, true) (alV 253 c) = (s, l, true) := if_neg h
      have HV := hid hv
      have hs : (s != -1) = true := bne_iff_ne.mpr h
      clear hv h
      have z2 := B2.out.c0
      have z3 := B2.out.c1
      have f2 := B2.out.f 0
      have f3 := B2.out.f 1
      go_wp2_with fail
      refine ret_agg2 rfl Tryd.underlying123 rfl (w.heap.size + 1) _ _ _ ?_ rfl rfl (Blk.put B2.out) rfl ⟨?_, ?_⟩
      · kernel_rfl
      · rw [HV.out]; rfl
      · exact (HW.out.setCell (.inl (by dsimp only; omega)) _).setCell (.inl (by dsimp only; omega)) _


theorem find_other (p c : Int) (w : World) (p1 : p ≠ 0) (p2 : p ≠ 252) (p3 : p ≠ 253) : Calls Tryd.prog 51 #[.agg #[.int .u8 p, .int .u32 c]] w (FindP (0, 0, false) w) := by
  have e1 : (p == 0) = false := beq_eq_false_iff_ne.mpr p1
  have e2 : (p == 252) = false := beq_eq_false_iff_ne.mpr p2
  have e3 : (p == 253) = false := beq_eq_false_iff_ne.mpr p3
  go_enter Tryd.func51, Tryd.ntmps51
  go_wp2_with fail
  refine ret_agg2 rfl Tryd.underlying123 rfl (w.heap.size + 1) #[.int .i64 0, .int .i64 0] 123 (.bool false) (by kernel_rfl) rfl rfl ?_ rfl ⟨rfl, ?_⟩
  · repeat (first | (refine hp_new ?_; simp; done) | (refine hp_old ?_ ?_; · (simp <;> omega)))
  · repeat (first | exact Upd.refl _ _ | apply Upd.alloc)

theorem Find_any (p c : Int) (w : World) (c0 : 0 ≤ c) (c1 : c < 4294967296) : Calls Tryd.prog 51 #[.agg #[.int .u8 p, .int .u32 c]] w (FindP (findV p c) w) := by
  unfold findV
  by_cases h1 : p = 0
  · subst h1; rw [if_pos rfl]; exact find_plain c w c0 c1
  · by_cases h2 : p = 252
    · subst h2; rw [if_neg h1, if_pos rfl]; exact find_misc c w c0 c1
    · by_cases h3 : p = 253
      · subst h3; rw [if_neg h1, if_neg h2, if_pos rfl]; exact find_vector c w c0 c1
      · rw [if_neg h1, if_neg h2, if_neg h3]; exact find_other p c w h1 h2 h3
end Go.Proofs.YtbllpajibhiobaaDoor
