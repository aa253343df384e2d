/-
  Globals and data of the document, as the program's.
-/
import Derived.Test.YtbllpajibhiobaaDoorJ8
namespace Go.Proofs.YtbllpajibhiobaaDoor
open Go.RowKit Go.Proofs.Leb Go.Proofs.Own
set_option maxRecDepth 100000
set_option maxHeartbeats 8000000

theorem own05_any (t : Int) (m : Bool) (w : World) : Calls Tryd.prog 19 #[.agg #[.int .u8 t, .bool m]] w (fun e w' => e = .returned (.agg #[.int .u8 t, .bool m]) ∧ New w w') := by
  go_enter Tryd.func19, Tryd.ntmps19
  go_wp2_with fail
  exact ret_agg rfl Tryd.underlying49 rfl (w.heap.size + 1) #[.int .u8 t, .bool m] 49 (by kernel_rfl) rfl rfl (hp_new (by simp)) ⟨rfl, ((Upd.refl _ _).alloc _).alloc _⟩
def OwnG (g : Glb) (w : World) (e : Ending) (w' : World) : Prop := ∃ a c, e = .returned (.agg #[.int .u8 g.t, .bool g.m, .slice a g.l.length c]) ∧ RdE 12 EP w' (Since8 w w') (.slice a g.l.length c) g.l ∧ New w w'
theorem infoG3 : (Tryd.prog.info? 52).map (·.size) = some 3 := by kernel_rfl
theorem ownG_any {B : Nat → Prop} (g : Glb) (l : Value) (w : World) (hr : RdE 12 ER w B l g.l) (hf : FitG g) :
    Calls Tryd.prog 5 #[.agg #[.int .u8 g.t, .bool g.m, l]] w (OwnG g w) := by
  have HL := hid (fun w' (hn : New w w') => own8_any l g.l w' (hr.new ER.ok hn) hf)
  obtain ⟨al, cl, rfl⟩ := hr.shape
  clear hr hf
  have H5 := hid (fun w' => own05_any g.t g.m w')
  obtain ⟨t, m, xs⟩ := g
  simp only at *
  have HW : Hid (One w #[.int .u8 t, .bool m, .slice al xs.length cl] 35 ((w.alloc (.cells #[.int .u8 t, .bool m, .slice al xs.length cl] 35)).alloc (.cells #[.int .u8 0, .bool false, .slice none 0 0] 52))) := One.mk0
  have HZ : Hid (((w.alloc (.cells #[.int .u8 t, .bool m, .slice al xs.length cl] 35)).alloc (.cells #[.int .u8 0, .bool false, .slice none 0 0] 52)).heap[w.heap.size + 1]? = some (.cells #[.int .u8 0, .bool false, .slice none 0 0] 52)) := One.mk2
  go_enter Tryd.func5, Tryd.ntmps5
  go_wp2_with fail
  generalize (w.alloc (.cells #[.int .u8 t, .bool m, .slice al xs.length cl] 35)).alloc (.cells #[.int .u8 0, .bool false, .slice none 0 0] 52) = w0 at *
  have hn : One w #[.int .u8 t, .bool m, .slice al xs.length cl] 35 w0.drew := HW.out.new (Upd.refl _ _).drew
  have hz : w0.drew.heap[w.heap.size + 1]? = some (.cells #[.int .u8 0, .bool false, .slice none 0 0] 52) := HZ.out
  refine wp_region_noPanic ?_
  refine wp_region_held_drew (S := (One w #[.int .u8 t, .bool m, .slice al xs.length cl] 35)) (by kernel_rfl) (by first | exact hn | exact (Upd.refl _ _).drew | exact Upd.drew (by assumption)) (fun hn => ?_)
  generalize w0.drew = wd at *
  refine wpAnyH_take (i := 0) (oi := { dst := some 3, op := Op.fieldAddr 35 (Operand.tmp 1) 0, type := 0, pos := "own.go:23", after := #[], guard := none }) (v := ?v33x1) rfl (by kernel_rfl) (by kernel_rfl) (by kernel_rfl) (fun _ _ _ h => h) (Or.inl ⟨by rfl, ?y33x1⟩) hn ?r33x1
  case y33x1 => (intro wS hS; (try go_simp); (try with_reducible rfl))
  try simp only [Act.put, List.setIfInBounds_toArray, List.set_cons_zero, List.set_cons_succ]
  refine wpAnyH_take (i := 1) (oi := { dst := some 4, op := Op.load 28 (Operand.tmp 3), type := 28, pos := "own.go:23", after := #[{ on := 0, ground := Ground.data }], guard := none }) (v := ?v33x2) rfl (by kernel_rfl) (by kernel_rfl) (by kernel_rfl) (fun _ _ _ h => h) (Or.inl ⟨by rfl, ?y33x2⟩) hn ?r33x2
  case y33x2 => (intro wS hS; have c0 := hS.at1 0 rfl; have c1 := hS.at1 1 rfl; (try go_simp); (try with_reducible rfl))
  try simp only [Act.put, List.setIfInBounds_toArray, List.set_cons_zero, List.set_cons_succ]
  refine wpAnyH_take (i := 3) (oi := { dst := some 6, op := Op.fieldAddr 35 (Operand.tmp 1) 1, type := 0, pos := "own.go:23", after := #[], guard := none }) (v := ?v33x3) rfl (by kernel_rfl) (by kernel_rfl) (by kernel_rfl) (fun _ _ _ h => h) (Or.inl ⟨by rfl, ?y33x3⟩) hn ?r33x3
  case y33x3 => (intro wS hS; (try go_simp); (try with_reducible rfl))
  try simp only [Act.put, List.setIfInBounds_toArray, List.set_cons_zero, List.set_cons_succ]
  refine wpAnyH_take (i := 4) (oi := { dst := some 7, op := Op.load 33 (Operand.tmp 6), type := 33, pos := "own.go:23", after := #[{ on := 3, ground := Ground.data }], guard := none }) (v := ?v33x4) rfl (by kernel_rfl) (by kernel_rfl) (by kernel_rfl) (fun _ _ _ h => h) (Or.inl ⟨by rfl, ?y33x4⟩) hn ?r33x4
  case y33x4 => (intro wS hS; have c0 := hS.at1 2 rfl; (try go_simp); (try with_reducible rfl))
  try simp only [Act.put, List.setIfInBounds_toArray, List.set_cons_zero, List.set_cons_succ]
  refine wpAnyH_ready (rs := [2]) (by kernel_rfl) (by simp) ?_
  refine AllReadyH.cons (o := { dst := some 5, op := Op.call { callee := Callee.value (Operand.func 19), args := #[Operand.tmp 4], argTypes := #[28] }, type := 49, pos := "own.go:23", after := #[{ on := 1, ground := Ground.data }], guard := none }) rfl (fun K hK => ?_) AllReadyH.nil
  go_simp
  refine (H5.out _).mono ?_
  rintro e wq ⟨rfl, hnq⟩
  go_wp2_with fail
  have hn := hn.new hnq
  have hz := hp1 hz hnq
  (try have hr := Far2.new EP.ok hnq hr)
  refine hK.out _ _ (by first | exact hn | exact Upd.alloc hn _) (fun hn => ?_)
  clear hK K
  try simp only [Act.put, List.setIfInBounds_toArray, List.set_cons_zero, List.set_cons_succ]
  refine wpAnyH_ready (rs := [5]) (by kernel_rfl) (by simp) ?_
  refine AllReadyH.cons (o := { dst := some 8, op := Op.call { callee := Callee.value (Operand.func 20), args := #[Operand.tmp 7], argTypes := #[33] }, type := 50, pos := "own.go:23", after := #[{ on := 4, ground := Ground.data }, { on := 2, ground := Ground.chain }], guard := none }) rfl (fun K hK => ?_) AllReadyH.nil
  go_simp
  have hn0 := hn
  refine (HL.out _ hn.1).mono ?_
  rintro e wr ⟨r, rfl, hr, hnr⟩
  obtain ⟨ar, cr, rfl⟩ := hr.shape
  go_wp2_with fail
  have hn := hn.new hnr
  have hz := hp1 hz hnr
  have hr := Far2.of EP.ok hn0 hr
  refine hK.out _ _ (by first | exact hn | exact Upd.alloc hn _) (fun hn => ?_)
  clear hK K
  try simp only [Act.put, List.setIfInBounds_toArray, List.set_cons_zero, List.set_cons_succ]
  refine wpAnyH_take (i := 6) (oi := { dst := some 9, op := Op.build 52 #[(0, Operand.tmp 5), (1, Operand.tmp 8)], type := 52, pos := "own.go:23", after := #[{ on := 2, ground := Ground.data }, { on := 5, ground := Ground.data }], guard := none }) (v := ?v33x5) rfl (by kernel_rfl) (by kernel_rfl) (by kernel_rfl) (fun _ _ _ h => h) (Or.inl ⟨by rfl, ?y33x5⟩) hn ?r33x5
  case y33x5 => (intro wS hS; (try go_simp); (try with_reducible rfl))
  try simp only [Act.put, List.setIfInBounds_toArray, List.set_cons_zero, List.set_cons_succ]
  refine wpAnyH_ready (rs := [7]) (by kernel_rfl) (by simp) ?_
  refine AllReadyH.cons (o := { dst := none, op := Op.store 52 (Operand.tmp 2) (Operand.tmp 9), type := 0, pos := "own.go:23", after := #[{ on := 6, ground := Ground.data }, { on := 5, ground := Ground.chain }, { on := 0, ground := Ground.phase }, { on := 1, ground := Ground.phase }, { on := 2, ground := Ground.phase }, { on := 3, ground := Ground.phase }, { on := 4, ground := Ground.phase }, { on := 5, ground := Ground.phase }, { on := 6, ground := Ground.phase }], guard := none }) rfl (fun K hK => ?_) AllReadyH.nil
  refine step_store_row 52 _ _ rfl rfl (w.heap.size + 1) #[.int .u8 t, .bool m, .slice ar xs.length cr] rfl rfl 52 _ hz infoG3 rfl (by simp [Value.oneCell']) ?_
  obtain ⟨hus, hbs⟩ := run_setRow (cs := #[.int .u8 t, .bool m, .slice ar xs.length cr]) hz
  have hr := Far2.set EP.ok hus hr
  have hn := hn.set hus
  refine hK.out _ _ (by first | exact hn | exact Upd.alloc hn _) (fun hn => ?_)
  clear hK K
  try simp only [Act.put, List.setIfInBounds_toArray, List.set_cons_zero, List.set_cons_succ]
  refine wpAnyH_done (by kernel_rfl) ?_ _
  refine NoPanic.normal ?_
  go_wp2_with fail
  refine ret_agg rfl Tryd.underlying52 rfl (w.heap.size + 1) #[.int .u8 t, .bool m, .slice ar xs.length cr] 52 infoG3 rfl rfl hbs ⟨_, _, rfl, Far2.since EP.ok hr, hn.1⟩
def OwnD (g : Dat) (w : World) (e : Ending) (w' : World) : Prop := ∃ a c, e = .returned (.agg #[.bool g.a, .int .u32 g.me, .slice a g.off.length c, .string g.s]) ∧ RdE 12 EP w' (Since8 w w') (.slice a g.off.length c) g.off ∧ New w w'
theorem infoD4 : (Tryd.prog.info? 63).map (·.size) = some 4 := by kernel_rfl
theorem ownD_any {B : Nat → Prop} (g : Dat) (l : Value) (w : World) (hr : RdE 12 ER w B l g.off) (hf : FitD g) :
    Calls Tryd.prog 11 #[.agg #[.bool g.a, .int .u32 g.me, l, .string g.s]] w (OwnD g w) := by
  have HL := hid (fun w' (hn : New w w') => own8_any l g.off w' (hr.new ER.ok hn) hf.1)
  obtain ⟨al, cl, rfl⟩ := hr.shape
  clear hr hf
  obtain ⟨t, m, xs, s⟩ := g
  simp only at *
  have HW : Hid (One w #[.bool t, .int .u32 m, .slice al xs.length cl, .string s] 40 ((w.alloc (.cells #[.bool t, .int .u32 m, .slice al xs.length cl, .string s] 40)).alloc (.cells #[.bool false, .int .u32 0, .slice none 0 0, .string ⟨#[]⟩] 63))) := One.mk0
  have HZ : Hid (((w.alloc (.cells #[.bool t, .int .u32 m, .slice al xs.length cl, .string s] 40)).alloc (.cells #[.bool false, .int .u32 0, .slice none 0 0, .string ⟨#[]⟩] 63)).heap[w.heap.size + 1]? = some (.cells #[.bool false, .int .u32 0, .slice none 0 0, .string ⟨#[]⟩] 63)) := One.mk2
  go_enter Tryd.func11, Tryd.ntmps11
  go_wp2_with fail
  generalize (w.alloc (.cells #[.bool t, .int .u32 m, .slice al xs.length cl, .string s] 40)).alloc (.cells #[.bool false, .int .u32 0, .slice none 0 0, .string ⟨#[]⟩] 63) = w0 at *
  have hn : One w #[.bool t, .int .u32 m, .slice al xs.length cl, .string s] 40 w0.drew := HW.out.new (Upd.refl _ _).drew
  have hz : w0.drew.heap[w.heap.size + 1]? = some (.cells #[.bool false, .int .u32 0, .slice none 0 0, .string ⟨#[]⟩] 63) := HZ.out
  refine wp_region_noPanic ?_
  refine wp_region_held_drew (S := (One w #[.bool t, .int .u32 m, .slice al xs.length cl, .string s] 40)) (by kernel_rfl) (by first | exact hn | exact (Upd.refl _ _).drew | exact Upd.drew (by assumption)) (fun hn => ?_)
  generalize w0.drew = wd at *
  refine wpAnyH_take (i := 0) (oi := { dst := some 3, op := Op.fieldAddr 40 (Operand.tmp 1) 0, type := 0, pos := "own.go:35", after := #[], guard := none }) (v := ?v34x1) rfl (by kernel_rfl) (by kernel_rfl) (by kernel_rfl) (fun _ _ _ h => h) (Or.inl ⟨by rfl, ?y34x1⟩) hn ?r34x1
  case y34x1 => (intro wS hS; (try go_simp); (try with_reducible rfl))
  try simp only [Act.put, List.setIfInBounds_toArray, List.set_cons_zero, List.set_cons_succ]
  refine wpAnyH_take (i := 1) (oi := { dst := some 4, op := Op.load 4 (Operand.tmp 3), type := 4, pos := "own.go:35", after := #[{ on := 0, ground := Ground.data }], guard := none }) (v := ?v34x2) rfl (by kernel_rfl) (by kernel_rfl) (by kernel_rfl) (fun _ _ _ h => h) (Or.inl ⟨by rfl, ?y34x2⟩) hn ?r34x2
  case y34x2 => (intro wS hS; have c0 := hS.at1 0 rfl; (try go_simp); (try with_reducible rfl))
  try simp only [Act.put, List.setIfInBounds_toArray, List.set_cons_zero, List.set_cons_succ]
  refine wpAnyH_take (i := 2) (oi := { dst := some 5, op := Op.fieldAddr 40 (Operand.tmp 1) 1, type := 0, pos := "own.go:35", after := #[], guard := none }) (v := ?v34x3) rfl (by kernel_rfl) (by kernel_rfl) (by kernel_rfl) (fun _ _ _ h => h) (Or.inl ⟨by rfl, ?y34x3⟩) hn ?r34x3
  case y34x3 => (intro wS hS; (try go_simp); (try with_reducible rfl))
  try simp only [Act.put, List.setIfInBounds_toArray, List.set_cons_zero, List.set_cons_succ]
  refine wpAnyH_take (i := 3) (oi := { dst := some 6, op := Op.load 22 (Operand.tmp 5), type := 22, pos := "own.go:35", after := #[{ on := 2, ground := Ground.data }], guard := none }) (v := ?v34x4) rfl (by kernel_rfl) (by kernel_rfl) (by kernel_rfl) (fun _ _ _ h => h) (Or.inl ⟨by rfl, ?y34x4⟩) hn ?r34x4
  case y34x4 => (intro wS hS; have c0 := hS.at1 1 rfl; (try go_simp); (try with_reducible rfl))
  try simp only [Act.put, List.setIfInBounds_toArray, List.set_cons_zero, List.set_cons_succ]
  refine wpAnyH_take (i := 4) (oi := { dst := some 7, op := Op.fieldAddr 40 (Operand.tmp 1) 2, type := 0, pos := "own.go:35", after := #[], guard := none }) (v := ?v34x5) rfl (by kernel_rfl) (by kernel_rfl) (by kernel_rfl) (fun _ _ _ h => h) (Or.inl ⟨by rfl, ?y34x5⟩) hn ?r34x5
  case y34x5 => (intro wS hS; (try go_simp); (try with_reducible rfl))
  try simp only [Act.put, List.setIfInBounds_toArray, List.set_cons_zero, List.set_cons_succ]
  refine wpAnyH_take (i := 5) (oi := { dst := some 8, op := Op.load 33 (Operand.tmp 7), type := 33, pos := "own.go:35", after := #[{ on := 4, ground := Ground.data }], guard := none }) (v := ?v34x6) rfl (by kernel_rfl) (by kernel_rfl) (by kernel_rfl) (fun _ _ _ h => h) (Or.inl ⟨by rfl, ?y34x6⟩) hn ?r34x6
  case y34x6 => (intro wS hS; have c0 := hS.at1 2 rfl; (try go_simp); (try with_reducible rfl))
  try simp only [Act.put, List.setIfInBounds_toArray, List.set_cons_zero, List.set_cons_succ]
  refine wpAnyH_take (i := 7) (oi := { dst := some 10, op := Op.fieldAddr 40 (Operand.tmp 1) 3, type := 0, pos := "own.go:35", after := #[], guard := none }) (v := ?v34x7) rfl (by kernel_rfl) (by kernel_rfl) (by kernel_rfl) (fun _ _ _ h => h) (Or.inl ⟨by rfl, ?y34x7⟩) hn ?r34x7
  case y34x7 => (intro wS hS; (try go_simp); (try with_reducible rfl))
  try simp only [Act.put, List.setIfInBounds_toArray, List.set_cons_zero, List.set_cons_succ]
  refine wpAnyH_take (i := 8) (oi := { dst := some 11, op := Op.load 9 (Operand.tmp 10), type := 9, pos := "own.go:35", after := #[{ on := 7, ground := Ground.data }], guard := none }) (v := ?v34x8) rfl (by kernel_rfl) (by kernel_rfl) (by kernel_rfl) (fun _ _ _ h => h) (Or.inl ⟨by rfl, ?y34x8⟩) hn ?r34x8
  case y34x8 => (intro wS hS; have c0 := hS.at1 3 rfl; (try go_simp); (try with_reducible rfl))
  try simp only [Act.put, List.setIfInBounds_toArray, List.set_cons_zero, List.set_cons_succ]
  refine wpAnyH_ready (rs := [6]) (by kernel_rfl) (by simp) ?_
  refine AllReadyH.cons (o := { dst := some 9, op := Op.call { callee := Callee.value (Operand.func 20), args := #[Operand.tmp 8], argTypes := #[33] }, type := 50, pos := "own.go:35", after := #[{ on := 5, ground := Ground.data }], guard := none }) rfl (fun K hK => ?_) AllReadyH.nil
  go_simp
  have hn0 := hn
  refine (HL.out _ hn.1).mono ?_
  rintro e wr ⟨r, rfl, hr, hnr⟩
  obtain ⟨ar, cr, rfl⟩ := hr.shape
  go_wp2_with fail
  have hn := hn.new hnr
  have hz := hp1 hz hnr
  have hr := Far2.of EP.ok hn0 hr
  refine hK.out _ _ (by first | exact hn | exact Upd.alloc hn _) (fun hn => ?_)
  clear hK K
  try simp only [Act.put, List.setIfInBounds_toArray, List.set_cons_zero, List.set_cons_succ]
  refine wpAnyH_take (i := 9) (oi := { dst := some 12, op := Op.build 63 #[(0, Operand.tmp 4), (1, Operand.tmp 6), (2, Operand.tmp 9), (3, Operand.tmp 11)], type := 63, pos := "own.go:35", after := #[{ on := 1, ground := Ground.data }, { on := 3, ground := Ground.data }, { on := 6, ground := Ground.data }, { on := 8, ground := Ground.data }], guard := none }) (v := ?v34x9) rfl (by kernel_rfl) (by kernel_rfl) (by kernel_rfl) (fun _ _ _ h => h) (Or.inl ⟨by rfl, ?y34x9⟩) hn ?r34x9
  case y34x9 => (intro wS hS; (try go_simp); (try with_reducible rfl))
  try simp only [Act.put, List.setIfInBounds_toArray, List.set_cons_zero, List.set_cons_succ]
  refine wpAnyH_ready (rs := [10]) (by kernel_rfl) (by simp) ?_
  refine AllReadyH.cons (o := { dst := none, op := Op.store 63 (Operand.tmp 2) (Operand.tmp 12), type := 0, pos := "own.go:35", after := #[{ on := 9, ground := Ground.data }, { on := 6, ground := Ground.chain }, { on := 0, ground := Ground.phase }, { on := 1, ground := Ground.phase }, { on := 2, ground := Ground.phase }, { on := 3, ground := Ground.phase }, { on := 4, ground := Ground.phase }, { on := 5, ground := Ground.phase }, { on := 6, ground := Ground.phase }, { on := 7, ground := Ground.phase }, { on := 8, ground := Ground.phase }, { on := 9, ground := Ground.phase }], guard := none }) rfl (fun K hK => ?_) AllReadyH.nil
  refine step_store_row 63 _ _ rfl rfl (w.heap.size + 1) #[.bool t, .int .u32 m, .slice ar xs.length cr, .string s] rfl rfl 63 _ hz infoD4 rfl (by simp [Value.oneCell']) ?_
  obtain ⟨hus, hbs⟩ := run_setRow (cs := #[.bool t, .int .u32 m, .slice ar xs.length cr, .string s]) hz
  have hr := Far2.set EP.ok hus hr
  have hn := hn.set hus
  refine hK.out _ _ (by first | exact hn | exact Upd.alloc hn _) (fun hn => ?_)
  clear hK K
  try simp only [Act.put, List.setIfInBounds_toArray, List.set_cons_zero, List.set_cons_succ]
  refine wpAnyH_done (by kernel_rfl) ?_ _
  refine NoPanic.normal ?_
  go_wp2_with fail
  refine ret_agg rfl Tryd.underlying63 rfl (w.heap.size + 1) #[.bool t, .int .u32 m, .slice ar xs.length cr, .string s] 63 infoD4 rfl rfl hbs ⟨_, _, rfl, Far2.since EP.ok hr, hn.1⟩
end Go.Proofs.YtbllpajibhiobaaDoor

namespace Go.Proofs.YtbllpajibhiobaaDoor
open Go.RowKit Go.Proofs.Leb Go.Proofs.Own
set_option maxRecDepth 100000
set_option maxHeartbeats 8000000

theorem blkStep {K : Act → World → Prop} {a : Act} {W : World} {o : Obj} (h : ∀ W2, New W W2 → New (W.alloc o) W2 → K a W2) : K a (W.alloc o) :=
  h _ ((Upd.refl _ _).alloc _) (Upd.refl _ _)
theorem F2.far {w a b : World} {v v' : Value} (h : F2 w v) (hs : w.heap.size + 2 ≤ a.heap.size) (ha : Adds a b v v') : F2 w v' := by
  intro k hk
  rcases ha.at' with e | ⟨j, e, hj⟩
  · exact h k (by rw [← e]; exact hk)
  · rw [e] at hk; cases hk; omega
theorem One.adds {w a b : World} {c1 : Array Value} {T1 : TypeId} {v v' : Value} (h : One w c1 T1 a) (hv : F2 w v) (ha : Adds a b v v') : One w c1 T1 b := h.upd ha.upd (fun i e => by have := hv i e; omega)
theorem F2.ne {w : World} {v : Value} (h : F2 w v) : v.ownBlock ≠ some (w.heap.size + 1) := fun e => by have := h _ e; omega
def OwnE (g : Elm) (w : World) (e : Ending) (w' : World) : Prop := ∃ a c a' c', e = .returned (.agg #[.int .i64 g.mo, .int .u8 g.ty, .int .u32 g.tb, .slice a g.off.length c, .slice a' g.l.length c']) ∧
  RdE 12 EP w' (Since8 w w') (.slice a g.off.length c) g.off ∧ RdE 1 (E1 FXP) w' (Since8 w w') (.slice a' g.l.length c') g.l ∧ New w w'
theorem infoE5 : (Tryd.prog.info? 58).map (·.size) = some 5 := by kernel_rfl
theorem infoLL : (Tryd.prog.info? 50).map (fun i => (i.zero, i.size, i.bytes)) = some (some (.slice none 0 0), 1, 24) := by kernel_rfl
theorem ownE_any {B B' : Nat → Prop} (g : Elm) (v l : Value) (w : World) (hr : RdE 12 ER w B v g.off) (hl : RdE 1 (E1 FXR) w B' l g.l) (hf : FitE g) :
    Calls Tryd.prog 8 #[.agg #[.int .i64 g.mo, .int .u8 g.ty, .int .u32 g.tb, v, l]] w (OwnE g w) := by
  have HL := hid (fun w' (hn : New w w') => own8_any v g.off w' (hr.new ER.ok hn) hf.1)
  obtain ⟨av, cv, rfl⟩ := hr.shape
  obtain ⟨al, cl, rfl, hat⟩ := e1_at hl
  have HAT := hid hat
  have HF := hid hf.2
  have hlen := hf.2.1
  clear hr hl hat hf
  obtain ⟨mo, ty, tb, off, xs⟩ := g
  simp only at *
  have HW : Hid (One w #[.int .i64 mo, .int .u8 ty, .int .u32 tb, .slice av off.length cv, .slice al xs.length cl] 38 ((w.alloc (.cells #[.int .i64 mo, .int .u8 ty, .int .u32 tb, .slice av off.length cv, .slice al xs.length cl] 38)).alloc (.cells #[.int .i64 0, .int .u8 0, .int .u32 0, .slice none 0 0, .slice none 0 0] 58))) := One.mk0
  have HZ : Hid (((w.alloc (.cells #[.int .i64 mo, .int .u8 ty, .int .u32 tb, .slice av off.length cv, .slice al xs.length cl] 38)).alloc (.cells #[.int .i64 0, .int .u8 0, .int .u32 0, .slice none 0 0, .slice none 0 0] 58)).heap[w.heap.size + 1]? = some (.cells #[.int .i64 0, .int .u8 0, .int .u32 0, .slice none 0 0, .slice none 0 0] 58)) := One.mk2
  go_enter Tryd.func8, Tryd.ntmps8
  go_wp2_with fail
  generalize (w.alloc (.cells #[.int .i64 mo, .int .u8 ty, .int .u32 tb, .slice av off.length cv, .slice al xs.length cl] 38)).alloc (.cells #[.int .i64 0, .int .u8 0, .int .u32 0, .slice none 0 0, .slice none 0 0] 58) = w0 at *
  go_loopw [3, 4] (fun b c wr => ∃ i : Nat, c = .int .i64 i ∧ i ≤ xs.length ∧ One w #[.int .i64 mo, .int .u8 ty, .int .u32 tb, .slice av off.length cv, .slice al xs.length cl] 38 wr ∧ wr.heap[w.heap.size + 1]? = some (.cells #[.int .i64 0, .int .u8 0, .int .u32 0, .slice none 0 0, .slice none 0 0] 58) ∧
    OwE 50 1 (E1 FXP) (fun k => w.heap.size + 2 ≤ k) wr b (xs.take i) ∧ F2 w b) (fun _ c _ => xs.length - (intOf c).toNat)
  case atStart => exact ⟨0, rfl, by omega, HW.out, HZ.out, OwE.nil, fun k h => by cases h⟩
  case round =>
    obtain ⟨i, rfl, hi1, hone, hz, how, hfr⟩ := hrel
    have HFR := hid hfr
    have HON := hid hone
    have HZR := hid hz
    have k4 := hone.at1 4 (v := .slice al xs.length cl) rfl
    by_cases hi : i < xs.length
    · obtain ⟨b, o, u, rfl, hc, hu⟩ := HAT.out i hi
      have k5 := hone.1.cell hc (fun h => h)
      have hg2 : (xs.take i).length ≤ 20 := by simp; omega
      have HG : Hid (xs.take (i + 1) = xs.take i ++ [xs[i]]) := by show _ = _; rw [List.take_add_one, List.getElem?_eq_getElem hi]; rfl
      have HC := hid (own8_any u xs[i] wr (RdE.new ER.ok hu hone.1) (HF.out.2 _ (List.getElem_mem hi)))
      obtain ⟨au, cu, rfl⟩ : ∃ au cu, u = .slice au xs[i].length cu := RdE.shape hu
      generalize xs[i] = x at *
      generalize hpe : xs.take i = pre at *
      obtain ⟨ab, cb, rfl⟩ := how.shape
      have HOW := hid how
      clear hc hu how hfr hpe hone hz
      go_wp2_with fail
      refine HC.out.mono ?_
      rintro e w2 ⟨r, rfl, hr2, hn2⟩
      obtain ⟨ar, cr, rfl⟩ := hr2.shape
      have hlt := HOW.out.lt
      have hRW : FXP w2 (Off (fun k => w.heap.size + 2 ≤ k) w2 (.slice ab pre.length cb)) (.slice ar x.length cr) x :=
        RdE.mono EP.ok hr2 fun k hk => Off.mk hk.2 hlt hk.1 (Nat.le_trans HON.out.2.2 hk.1)
      have HRW := hid hRW
      have HO2 := hid (HOW.out.new (E1.ok FXP.ok) hn2)
      have HN2 := hid (HON.out.new hn2)
      have HZ2 := hid (hp1 HZR.out hn2)
      clear k4 k5 HC hr2 hn2 hlt HOW hRW
      go_wp2_with (at_builtin; refine hold ?_)
      refine held_appendE (E1.ok FXP.ok) 56 50 1 24 _ infoLL Tryd.underlying56 rfl (by decide) (.tmp 12) (.tmp 19) rfl rfl _ pre rfl HO2.out x [.slice ar x.length cr] ⟨_, rfl, HRW.out⟩ rfl rfl (by simp [Value.oneCell']) (by unfold maxLen; omega) (by omega) ?_
      intro v' w' ho' ha
      have HP := hid ho'
      have HN3 := hid (HN2.out.adds HFR.out ha)
      have HZ3 := hid (hpB HZ2.out ha HFR.out.ne)
      have HF3 := hid (HFR.out.far HN2.out.2.2 ha)
      clear ho' ha HRW HO2
      go_wp2_with fail
      go_roundw
      case rel => exact ⟨i + 1, by go_num, by omega, HN3.out, HZ3.out, by rw [HG.out]; exact HP.out, HF3.out⟩
      case measure => simp [intOf]; omega
    · have e : i = xs.length := by omega
      subst e
      rw [List.take_length] at how
      have hll : RdE 1 (E1 FXP) wr (Far2 w wr) _ xs := (how.rd (E1.ok FXP.ok)).mono (E1.ok FXP.ok) fun k hk => ⟨hk.2.elim id (HFR.out k), hk.1⟩
      obtain ⟨ab, cb, rfl⟩ := how.shape
      clear how hfr hone hz
      have hn := HON.out.new (Upd.refl _ wr).drew
      have hz : wr.drew.heap[w.heap.size + 1]? = some (.cells #[.int .i64 0, .int .u8 0, .int .u32 0, .slice none 0 0, .slice none 0 0] 58) := HZR.out
      have hlx : RdE 1 (E1 FXP) wr.drew (Far2 w wr.drew) (.slice ab xs.length cb) xs := Far2.new (E1.ok FXP.ok) (Upd.refl _ wr).drew hll
      clear hll
      go_wp2_with fail
      clear k4
      refine wp_region_noPanic ?_
      refine wp_region_held_drew (S := (One w #[.int .i64 mo, .int .u8 ty, .int .u32 tb, .slice av off.length cv, .slice al xs.length cl] 38)) (by kernel_rfl) (by first | exact hn | exact (Upd.refl _ _).drew | exact Upd.drew (by assumption)) (fun hn => ?_)
      generalize wr.drew = wd at *
      refine wpAnyH_take (i := 0) (oi := { dst := some 21, op := Op.fieldAddr 38 (Operand.tmp 1) 0, type := 0, pos := "own.go:31", after := #[], guard := none }) (v := ?v35x1) rfl (by kernel_rfl) (by kernel_rfl) (by kernel_rfl) (fun _ _ _ h => h) (Or.inl ⟨by rfl, ?y35x1⟩) hn ?r35x1
      case y35x1 => (intro wS hS; (try go_simp); (try with_reducible rfl))
      try simp only [Act.put, List.setIfInBounds_toArray, List.set_cons_zero, List.set_cons_succ]
      refine wpAnyH_take (i := 1) (oi := { dst := some 22, op := Op.load 3 (Operand.tmp 21), type := 3, pos := "own.go:31", after := #[{ on := 0, ground := Ground.data }], guard := none }) (v := ?v35x2) rfl (by kernel_rfl) (by kernel_rfl) (by kernel_rfl) (fun _ _ _ h => h) (Or.inl ⟨by rfl, ?y35x2⟩) hn ?r35x2
      case y35x2 => (intro wS hS; have c0 := hS.at1 0 rfl; (try go_simp); (try with_reducible rfl))
      try simp only [Act.put, List.setIfInBounds_toArray, List.set_cons_zero, List.set_cons_succ]
      refine wpAnyH_take (i := 2) (oi := { dst := some 23, op := Op.fieldAddr 38 (Operand.tmp 1) 1, type := 0, pos := "own.go:31", after := #[], guard := none }) (v := ?v35x3) rfl (by kernel_rfl) (by kernel_rfl) (by kernel_rfl) (fun _ _ _ h => h) (Or.inl ⟨by rfl, ?y35x3⟩) hn ?r35x3
      case y35x3 => (intro wS hS; (try go_simp); (try with_reducible rfl))
      try simp only [Act.put, List.setIfInBounds_toArray, List.set_cons_zero, List.set_cons_succ]
      refine wpAnyH_take (i := 3) (oi := { dst := some 24, op := Op.load 5 (Operand.tmp 23), type := 5, pos := "own.go:31", after := #[{ on := 2, ground := Ground.data }], guard := none }) (v := ?v35x4) rfl (by kernel_rfl) (by kernel_rfl) (by kernel_rfl) (fun _ _ _ h => h) (Or.inl ⟨by rfl, ?y35x4⟩) hn ?r35x4
      case y35x4 => (intro wS hS; have c0 := hS.at1 1 rfl; (try go_simp); (try with_reducible rfl))
      try simp only [Act.put, List.setIfInBounds_toArray, List.set_cons_zero, List.set_cons_succ]
      refine wpAnyH_take (i := 4) (oi := { dst := some 25, op := Op.fieldAddr 38 (Operand.tmp 1) 2, type := 0, pos := "own.go:31", after := #[], guard := none }) (v := ?v35x5) rfl (by kernel_rfl) (by kernel_rfl) (by kernel_rfl) (fun _ _ _ h => h) (Or.inl ⟨by rfl, ?y35x5⟩) hn ?r35x5
      case y35x5 => (intro wS hS; (try go_simp); (try with_reducible rfl))
      try simp only [Act.put, List.setIfInBounds_toArray, List.set_cons_zero, List.set_cons_succ]
      refine wpAnyH_take (i := 5) (oi := { dst := some 26, op := Op.load 22 (Operand.tmp 25), type := 22, pos := "own.go:31", after := #[{ on := 4, ground := Ground.data }], guard := none }) (v := ?v35x6) rfl (by kernel_rfl) (by kernel_rfl) (by kernel_rfl) (fun _ _ _ h => h) (Or.inl ⟨by rfl, ?y35x6⟩) hn ?r35x6
      case y35x6 => (intro wS hS; have c0 := hS.at1 2 rfl; (try go_simp); (try with_reducible rfl))
      try simp only [Act.put, List.setIfInBounds_toArray, List.set_cons_zero, List.set_cons_succ]
      refine wpAnyH_take (i := 6) (oi := { dst := some 27, op := Op.fieldAddr 38 (Operand.tmp 1) 3, type := 0, pos := "own.go:31", after := #[], guard := none }) (v := ?v35x7) rfl (by kernel_rfl) (by kernel_rfl) (by kernel_rfl) (fun _ _ _ h => h) (Or.inl ⟨by rfl, ?y35x7⟩) hn ?r35x7
      case y35x7 => (intro wS hS; (try go_simp); (try with_reducible rfl))
      try simp only [Act.put, List.setIfInBounds_toArray, List.set_cons_zero, List.set_cons_succ]
      refine wpAnyH_take (i := 7) (oi := { dst := some 28, op := Op.load 33 (Operand.tmp 27), type := 33, pos := "own.go:31", after := #[{ on := 6, ground := Ground.data }], guard := none }) (v := ?v35x8) rfl (by kernel_rfl) (by kernel_rfl) (by kernel_rfl) (fun _ _ _ h => h) (Or.inl ⟨by rfl, ?y35x8⟩) hn ?r35x8
      case y35x8 => (intro wS hS; have c0 := hS.at1 3 rfl; (try go_simp); (try with_reducible rfl))
      try simp only [Act.put, List.setIfInBounds_toArray, List.set_cons_zero, List.set_cons_succ]
      refine wpAnyH_take (i := 9) (oi := { dst := some 30, op := Op.move (Operand.tmp 3), type := 56, pos := "own.go:31", after := #[], guard := none }) (v := ?v35x9) rfl (by kernel_rfl) (by kernel_rfl) (by kernel_rfl) (fun _ _ _ h => h) (Or.inl ⟨by rfl, ?y35x9⟩) hn ?r35x9
      case y35x9 => (intro wS hS; (try go_simp); (try with_reducible rfl))
      try simp only [Act.put, List.setIfInBounds_toArray, List.set_cons_zero, List.set_cons_succ]
      refine wpAnyH_ready (rs := [8]) (by kernel_rfl) (by simp) ?_
      refine AllReadyH.cons (o := { dst := some 29, op := Op.call { callee := Callee.value (Operand.func 20), args := #[Operand.tmp 28], argTypes := #[33] }, type := 50, pos := "own.go:31", after := #[{ on := 7, ground := Ground.data }], guard := none }) rfl (fun K hK => ?_) AllReadyH.nil
      go_simp
      have hn0 := hn
      refine (HL.out _ hn.1).mono ?_
      rintro e wq ⟨r, rfl, hr, hnr⟩
      obtain ⟨ar, cr, rfl⟩ := hr.shape
      go_wp2_with fail
      have hn := hn.new hnr
      have hz := hp1 hz hnr
      have hr := Far2.of EP.ok hn0 hr
      have hlx := Far2.new (E1.ok FXP.ok) hnr hlx
      refine hK.out _ _ (by first | exact hn | exact Upd.alloc hn _) (fun hn => ?_)
      clear hK K
      try simp only [Act.put, List.setIfInBounds_toArray, List.set_cons_zero, List.set_cons_succ]
      refine wpAnyH_take (i := 10) (oi := { dst := some 31, op := Op.build 58 #[(0, Operand.tmp 22), (1, Operand.tmp 24), (2, Operand.tmp 26), (3, Operand.tmp 29), (4, Operand.tmp 30)], type := 58, pos := "own.go:31", after := #[{ on := 1, ground := Ground.data }, { on := 3, ground := Ground.data }, { on := 5, ground := Ground.data }, { on := 8, ground := Ground.data }, { on := 9, ground := Ground.data }], guard := none }) (v := ?v35x10) rfl (by kernel_rfl) (by kernel_rfl) (by kernel_rfl) (fun _ _ _ h => h) (Or.inl ⟨by rfl, ?y35x10⟩) hn ?r35x10
      case y35x10 => (intro wS hS; (try go_simp); (try with_reducible rfl))
      try simp only [Act.put, List.setIfInBounds_toArray, List.set_cons_zero, List.set_cons_succ]
      refine wpAnyH_ready (rs := [11]) (by kernel_rfl) (by simp) ?_
      refine AllReadyH.cons (o := { dst := none, op := Op.store 58 (Operand.tmp 2) (Operand.tmp 31), type := 0, pos := "own.go:31", after := #[{ on := 10, ground := Ground.data }, { on := 8, ground := Ground.chain }, { on := 0, ground := Ground.phase }, { on := 1, ground := Ground.phase }, { on := 2, ground := Ground.phase }, { on := 3, ground := Ground.phase }, { on := 4, ground := Ground.phase }, { on := 5, ground := Ground.phase }, { on := 6, ground := Ground.phase }, { on := 7, ground := Ground.phase }, { on := 8, ground := Ground.phase }, { on := 9, ground := Ground.phase }, { on := 10, ground := Ground.phase }], guard := none }) rfl (fun K hK => ?_) AllReadyH.nil
      refine step_store_row 58 _ _ rfl rfl (w.heap.size + 1) #[.int .i64 mo, .int .u8 ty, .int .u32 tb, .slice ar off.length cr, .slice ab xs.length cb] rfl rfl 58 _ hz infoE5 rfl (by simp [Value.oneCell']) ?_
      obtain ⟨hus, hbs⟩ := run_setRow (cs := #[.int .i64 mo, .int .u8 ty, .int .u32 tb, .slice ar off.length cr, .slice ab xs.length cb]) hz
      have hr := Far2.set EP.ok hus hr
      have hlx := Far2.set (E1.ok FXP.ok) hus hlx
      have hn := hn.set hus
      refine hK.out _ _ (by first | exact hn | exact Upd.alloc hn _) (fun hn => ?_)
      clear hK K
      try simp only [Act.put, List.setIfInBounds_toArray, List.set_cons_zero, List.set_cons_succ]
      refine wpAnyH_done (by kernel_rfl) ?_ _
      refine NoPanic.normal ?_
      go_wp2_with fail
      refine ret_agg rfl Tryd.underlying58 rfl (w.heap.size + 1) #[.int .i64 mo, .int .u8 ty, .int .u32 tb, .slice ar off.length cr, .slice ab xs.length cb] 58 infoE5 rfl rfl hbs ⟨_, _, _, _, rfl, Far2.since EP.ok hr, Far2.since (E1.ok FXP.ok) hlx, hn.1⟩
end Go.Proofs.YtbllpajibhiobaaDoor

namespace Go.Proofs.YtbllpajibhiobaaDoor
open Go.RowKit Go.Proofs.Leb Go.Proofs.Own
set_option maxRecDepth 100000
set_option maxHeartbeats 8000000

def OwnC (g : Cod) (w : World) (e : Ending) (w' : World) : Prop := ∃ a c a' c', e = .returned (.agg #[.slice a g.ls.length c, .slice a' g.b.length c']) ∧
  RdE 2 EU w' (Since8 w w') (.slice a g.ls.length c) g.ls ∧ RdE 12 EP w' (Since8 w w') (.slice a' g.b.length c') g.b ∧ New w w'
theorem infoC2 : (Tryd.prog.info? 69).map (·.size) = some 2 := by kernel_rfl
theorem infoRu : (Tryd.prog.info? 84).map (fun i => (i.zero, i.size, i.bytes)) = some (some (.agg #[.int .u32 0, .int .u8 0]), 2, 8) := by kernel_rfl
theorem ownC_any {B B' : Nat → Prop} (g : Cod) (v l : Value) (w : World) (hr : RdE 2 EU w B v g.ls) (hl : RdE 12 ER w B' l g.b) (hf : FitC g) :
    Calls Tryd.prog 14 #[.agg #[v, l]] w (OwnC g w) := by
  have HL := hid (fun w' (hn : New w w') => own8_any l g.b w' (hl.new ER.ok hn) hf.2)
  obtain ⟨av, cv, rfl, hat⟩ := eu_at hr
  obtain ⟨al, cl, rfl⟩ := hl.shape
  have HAT := hid hat
  have hlen := hf.1
  clear hr hl hat hf
  obtain ⟨xs, bd⟩ := g
  simp only at *
  have HW : Hid (One w #[.slice av xs.length cv, .slice al bd.length cl] 43 ((w.alloc (.cells #[.slice av xs.length cv, .slice al bd.length cl] 43)).alloc (.cells #[.slice none 0 0, .slice none 0 0] 69))) := One.mk0
  have HZ : Hid (((w.alloc (.cells #[.slice av xs.length cv, .slice al bd.length cl] 43)).alloc (.cells #[.slice none 0 0, .slice none 0 0] 69)).heap[w.heap.size + 1]? = some (.cells #[.slice none 0 0, .slice none 0 0] 69)) := One.mk2
  go_enter Tryd.func14, Tryd.ntmps14
  go_wp2_with fail
  generalize (w.alloc (.cells #[.slice av xs.length cv, .slice al bd.length cl] 43)).alloc (.cells #[.slice none 0 0, .slice none 0 0] 69) = w0 at *
  go_loopw [3, 4] (fun b c wr => ∃ i : Nat, c = .int .i64 i ∧ i ≤ xs.length ∧ One w #[.slice av xs.length cv, .slice al bd.length cl] 43 wr ∧ wr.heap[w.heap.size + 1]? = some (.cells #[.slice none 0 0, .slice none 0 0] 69) ∧
    OwE 84 2 EU (fun k => w.heap.size + 2 ≤ k) wr b (xs.take i) ∧ F2 w b) (fun _ c _ => xs.length - (intOf c).toNat)
  case atStart => exact ⟨0, rfl, by omega, HW.out, HZ.out, OwE.nil, fun k h => by cases h⟩
  case round =>
    obtain ⟨i, rfl, hi1, hone, hz, how, hfr⟩ := hrel
    have HFR := hid hfr
    have HON := hid hone
    have HZR := hid hz
    have k4 := hone.at1 0 (v := .slice av xs.length cv) rfl
    by_cases hi : i < xs.length
    · obtain ⟨b, o, rfl, hc0, hc1⟩ := HAT.out i hi
      have hg2 : (xs.take i).length ≤ 40 := by simp; omega
      have HG : Hid (xs.take (i + 1) = xs.take i ++ [xs[i]]) := by show _ = _; rw [List.take_add_one, List.getElem?_eq_getElem hi]; rfl
      generalize xs[i] = x at *
      obtain ⟨n, s⟩ := x
      simp only at hc0 hc1
      have q0 := hid hc0
      have q1 := hid hc1
      generalize hpe : xs.take i = pre at *
      obtain ⟨ab, cb, rfl⟩ := how.shape
      have hn := HON.out.new (Upd.refl _ wr).drew
      have hoc := how.new EU.ok (Upd.refl _ wr).drew
      have hz : wr.drew.heap[w.heap.size + 1]? = some (.cells #[.slice none 0 0, .slice none 0 0] 69) := HZR.out
      clear hc0 hc1 how hfr hpe hone
      go_wp2_with fail
      clear k4
      refine wp_region_noPanic ?_
      refine wp_region_held_drew (S := (One w #[.slice (some ⟨b, o, none⟩) xs.length cv, .slice al bd.length cl] 43)) (by kernel_rfl) (by first | exact hn | exact (Upd.refl _ _).drew | exact Upd.drew (by assumption)) (fun hn => ?_)
      generalize wr.drew = wd at *
      refine wpAnyH_take (i := 0) (oi := { dst := some 12, op := Op.move (Operand.tmp 3), type := 67, pos := "own.go:41", after := #[], guard := none }) (v := ?v36x1) rfl (by kernel_rfl) (by kernel_rfl) (by kernel_rfl) (fun _ _ _ h => h) (Or.inl ⟨by rfl, ?y36x1⟩) hn ?r36x1
      case y36x1 => (intro wS hS; (try go_simp); (try with_reducible rfl))
      try simp only [Act.put, List.setIfInBounds_toArray, List.set_cons_zero, List.set_cons_succ]
      refine wpAnyH_take (i := 1) (oi := { dst := some 13, op := Op.fieldAddr 43 (Operand.tmp 1) 0, type := 0, pos := "own.go:41", after := #[], guard := none }) (v := ?v36x2) rfl (by kernel_rfl) (by kernel_rfl) (by kernel_rfl) (fun _ _ _ h => h) (Or.inl ⟨by rfl, ?y36x2⟩) hn ?r36x2
      case y36x2 => (intro wS hS; (try go_simp); (try with_reducible rfl))
      try simp only [Act.put, List.setIfInBounds_toArray, List.set_cons_zero, List.set_cons_succ]
      refine wpAnyH_take (i := 2) (oi := { dst := some 14, op := Op.load 41 (Operand.tmp 13), type := 41, pos := "own.go:41", after := #[{ on := 1, ground := Ground.data }], guard := none }) (v := ?v36x3) rfl (by kernel_rfl) (by kernel_rfl) (by kernel_rfl) (fun _ _ _ h => h) (Or.inl ⟨by rfl, ?y36x3⟩) hn ?r36x3
      case y36x3 => (intro wS hS; have c0 := hS.at1 0 rfl; (try go_simp); (try with_reducible rfl))
      try simp only [Act.put, List.setIfInBounds_toArray, List.set_cons_zero, List.set_cons_succ]
      refine wpAnyH_take (i := 3) (oi := { dst := some 15, op := Op.move (Operand.tmp 4), type := 3, pos := "own.go:41", after := #[], guard := none }) (v := ?v36x4) rfl (by kernel_rfl) (by kernel_rfl) (by kernel_rfl) (fun _ _ _ h => h) (Or.inl ⟨by rfl, ?y36x4⟩) hn ?r36x4
      case y36x4 => (intro wS hS; (try go_simp); (try with_reducible rfl))
      try simp only [Act.put, List.setIfInBounds_toArray, List.set_cons_zero, List.set_cons_succ]
      refine wpAnyH_take (i := 4) (oi := { dst := some 16, op := Op.indexAddr 41 (Operand.tmp 14) (Operand.tmp 15), type := 0, pos := "own.go:41", after := #[{ on := 2, ground := Ground.data }, { on := 3, ground := Ground.data }], guard := none }) (v := ?v36x5) rfl (by kernel_rfl) (by kernel_rfl) (by kernel_rfl) (fun _ _ _ h => h) (Or.inl ⟨by rfl, ?y36x5⟩) hn ?r36x5
      case y36x5 => (intro wS hS; (try go_simp); (try with_reducible rfl))
      try simp only [Act.put, List.setIfInBounds_toArray, List.set_cons_zero, List.set_cons_succ]
      refine wpAnyH_take (i := 5) (oi := { dst := some 17, op := Op.fieldAddr 82 (Operand.tmp 16) 0, type := 0, pos := "own.go:41", after := #[{ on := 4, ground := Ground.data }], guard := none }) (v := ?v36x6) rfl (by kernel_rfl) (by kernel_rfl) (by kernel_rfl) (fun _ _ _ h => h) (Or.inl ⟨by rfl, ?y36x6⟩) hn ?r36x6
      case y36x6 => (intro wS hS; (try go_simp); (try with_reducible rfl))
      try simp only [Act.put, List.setIfInBounds_toArray, List.set_cons_zero, List.set_cons_succ]
      refine wpAnyH_take (i := 6) (oi := { dst := some 18, op := Op.load 22 (Operand.tmp 17), type := 22, pos := "own.go:41", after := #[{ on := 5, ground := Ground.data }], guard := none }) (v := ?v36x7) rfl (by kernel_rfl) (by kernel_rfl) (by kernel_rfl) (fun _ _ _ h => h) (Or.inl ⟨by rfl, ?y36x7⟩) hn ?r36x7
      case y36x7 => (intro wS hS; have c0 := hS.1.cell q0.out (fun h => h); (try go_simp); (try with_reducible rfl))
      try simp only [Act.put, List.setIfInBounds_toArray, List.set_cons_zero, List.set_cons_succ]
      refine wpAnyH_take (i := 7) (oi := { dst := some 19, op := Op.fieldAddr 43 (Operand.tmp 1) 0, type := 0, pos := "own.go:41", after := #[], guard := none }) (v := ?v36x8) rfl (by kernel_rfl) (by kernel_rfl) (by kernel_rfl) (fun _ _ _ h => h) (Or.inl ⟨by rfl, ?y36x8⟩) hn ?r36x8
      case y36x8 => (intro wS hS; (try go_simp); (try with_reducible rfl))
      try simp only [Act.put, List.setIfInBounds_toArray, List.set_cons_zero, List.set_cons_succ]
      refine wpAnyH_take (i := 8) (oi := { dst := some 20, op := Op.load 41 (Operand.tmp 19), type := 41, pos := "own.go:41", after := #[{ on := 7, ground := Ground.data }], guard := none }) (v := ?v36x9) rfl (by kernel_rfl) (by kernel_rfl) (by kernel_rfl) (fun _ _ _ h => h) (Or.inl ⟨by rfl, ?y36x9⟩) hn ?r36x9
      case y36x9 => (intro wS hS; have c0 := hS.at1 0 rfl; (try go_simp); (try with_reducible rfl))
      try simp only [Act.put, List.setIfInBounds_toArray, List.set_cons_zero, List.set_cons_succ]
      refine wpAnyH_take (i := 9) (oi := { dst := some 21, op := Op.move (Operand.tmp 4), type := 3, pos := "own.go:41", after := #[], guard := none }) (v := ?v36x10) rfl (by kernel_rfl) (by kernel_rfl) (by kernel_rfl) (fun _ _ _ h => h) (Or.inl ⟨by rfl, ?y36x10⟩) hn ?r36x10
      case y36x10 => (intro wS hS; (try go_simp); (try with_reducible rfl))
      try simp only [Act.put, List.setIfInBounds_toArray, List.set_cons_zero, List.set_cons_succ]
      refine wpAnyH_take (i := 10) (oi := { dst := some 22, op := Op.indexAddr 41 (Operand.tmp 20) (Operand.tmp 21), type := 0, pos := "own.go:41", after := #[{ on := 8, ground := Ground.data }, { on := 9, ground := Ground.data }], guard := none }) (v := ?v36x11) rfl (by kernel_rfl) (by kernel_rfl) (by kernel_rfl) (fun _ _ _ h => h) (Or.inl ⟨by rfl, ?y36x11⟩) hn ?r36x11
      case y36x11 => (intro wS hS; (try go_simp); (try with_reducible rfl))
      try simp only [Act.put, List.setIfInBounds_toArray, List.set_cons_zero, List.set_cons_succ]
      refine wpAnyH_take (i := 11) (oi := { dst := some 23, op := Op.fieldAddr 82 (Operand.tmp 22) 1, type := 0, pos := "own.go:41", after := #[{ on := 10, ground := Ground.data }], guard := none }) (v := ?v36x12) rfl (by kernel_rfl) (by kernel_rfl) (by kernel_rfl) (fun _ _ _ h => h) (Or.inl ⟨by rfl, ?y36x12⟩) hn ?r36x12
      case y36x12 => (intro wS hS; (try go_simp); (try with_reducible rfl))
      try simp only [Act.put, List.setIfInBounds_toArray, List.set_cons_zero, List.set_cons_succ]
      refine wpAnyH_take (i := 12) (oi := { dst := some 24, op := Op.load 5 (Operand.tmp 23), type := 5, pos := "own.go:41", after := #[{ on := 11, ground := Ground.data }], guard := none }) (v := ?v36x13) rfl (by kernel_rfl) (by kernel_rfl) (by kernel_rfl) (fun _ _ _ h => h) (Or.inl ⟨by rfl, ?y36x13⟩) hn ?r36x13
      case y36x13 => (intro wS hS; have c0 := hS.1.cell q1.out (fun h => h); (try go_simp); (try with_reducible rfl))
      try simp only [Act.put, List.setIfInBounds_toArray, List.set_cons_zero, List.set_cons_succ]
      refine wpAnyH_take (i := 13) (oi := { dst := some 25, op := Op.build 84 #[(0, Operand.tmp 18), (1, Operand.tmp 24)], type := 84, pos := "own.go:41", after := #[{ on := 6, ground := Ground.data }, { on := 12, ground := Ground.data }], guard := none }) (v := ?v36x14) rfl (by kernel_rfl) (by kernel_rfl) (by kernel_rfl) (fun _ _ _ h => h) (Or.inl ⟨by rfl, ?y36x14⟩) hn ?r36x14
      case y36x14 => (intro wS hS; (try go_simp); (try with_reducible rfl))
      try simp only [Act.put, List.setIfInBounds_toArray, List.set_cons_zero, List.set_cons_succ]
      refine wpAnyH_ready (rs := [14]) (by kernel_rfl) (by simp) ?_
      refine AllReadyH.cons (o := { dst := some 26, op := Op.buildSlice 67 1 #[(0, Operand.tmp 25)], type := 67, pos := "own.go:41", after := #[{ on := 13, ground := Ground.data }], guard := none }) rfl (fun K hK => ?_) AllReadyH.nil
      go_simp
      refine blkStep ?_
      intro ws hnr hnb
      have hn := hn.new hnr
      have hoc := hoc.new EU.ok hnr
      have hz := hp1 hz hnr
      refine hK.out _ _ (by first | exact hn | exact Upd.alloc hn _) (fun hn => ?_)
      clear hK K
      try simp only [Act.put, List.setIfInBounds_toArray, List.set_cons_zero, List.set_cons_succ]
      refine wpAnyH_ready (rs := [15]) (by kernel_rfl) (by simp) ?_
      refine AllReadyH.cons (o := { dst := some 27, op := Op.call { callee := Callee.builtin Builtin.append, args := #[Operand.tmp 12, Operand.tmp 26], argTypes := #[67, 67] }, type := 67, pos := "own.go:41", after := #[{ on := 0, ground := Ground.data }, { on := 14, ground := Ground.data }], guard := none }) rfl (fun K hK => ?_) AllReadyH.nil
      refine step_appendE EU.ok 67 84 2 8 _ infoRu Tryd.underlying67 rfl (by decide) (.tmp 12) (.tmp 26) rfl rfl _ pre rfl hoc (n, s) [.int .u32 (n : Nat), .int .u8 (s : Nat)] rfl hnb rfl rfl (by simp [Value.oneCell']) (by unfold maxLen; omega) (by omega) ?_
      intro v' w' ho' ha
      have HN3 := hid (hn.adds HFR.out ha)
      have HZ3 := hid (hpB hz ha HFR.out.ne)
      have HF3 := hid (HFR.out.far hn.2.2 ha)
      have hn := HN3.out
      refine hK.out _ _ (by first | exact hn | exact Upd.alloc hn _) (fun hn => ?_)
      clear hK K
      try simp only [Act.put, List.setIfInBounds_toArray, List.set_cons_zero, List.set_cons_succ]
      refine wpAnyH_take (i := 16) (oi := { dst := some 3, op := Op.assign (Operand.tmp 27), type := 67, pos := "own.go:41", after := #[{ on := 15, ground := Ground.data }, { on := 15, ground := Ground.chain }, { on := 0, ground := Ground.phase }, { on := 1, ground := Ground.phase }, { on := 2, ground := Ground.phase }, { on := 3, ground := Ground.phase }, { on := 4, ground := Ground.phase }, { on := 5, ground := Ground.phase }, { on := 6, ground := Ground.phase }, { on := 7, ground := Ground.phase }, { on := 8, ground := Ground.phase }, { on := 9, ground := Ground.phase }, { on := 10, ground := Ground.phase }, { on := 11, ground := Ground.phase }, { on := 12, ground := Ground.phase }, { on := 13, ground := Ground.phase }, { on := 14, ground := Ground.phase }, { on := 15, ground := Ground.phase }], guard := none }) (v := ?v36x15) rfl (by kernel_rfl) (by kernel_rfl) (by kernel_rfl) (fun _ _ _ h => h) (Or.inl ⟨by rfl, ?y36x15⟩) hn ?r36x15
      case y36x15 => (intro wS hS; (try go_simp); (try with_reducible rfl))
      try simp only [Act.put, List.setIfInBounds_toArray, List.set_cons_zero, List.set_cons_succ]
      refine wpAnyH_done (by kernel_rfl) ?_ _
      refine NoPanic.normal ?_
      have HP := hid ho'
      clear ho' ha hoc hn hz
      go_wp2_with fail
      go_roundw
      case rel => exact ⟨i + 1, by go_num, by omega, HN3.out, HZ3.out, by rw [HG.out]; exact HP.out, HF3.out⟩
      case measure => (simp [intOf]; omega)
    · have e : i = xs.length := by omega
      subst e
      rw [List.take_length] at how
      have hll : RdE 2 EU wr (Far2 w wr) _ xs := (how.rd EU.ok).mono EU.ok fun k hk => ⟨hk.2.elim id (HFR.out k), hk.1⟩
      obtain ⟨ab, cb, rfl⟩ := how.shape
      have HLL := hid hll
      have k5 := hone.at1 1 (v := .slice al bd.length cl) rfl
      have HC := hid (HL.out wr hone.1)
      clear how hfr hone hz hll
      go_wp2_with fail
      refine HC.out.mono ?_
      rintro e w2 ⟨r, rfl, hr, hnr⟩
      obtain ⟨ar, cr, rfl⟩ := hr.shape
      have HN2 := hid (HON.out.new hnr)
      have HR := hid (Far2.of EP.ok HON.out hr)
      have HLL2 := hid (Far2.new EU.ok hnr HLL.out)
      have HZ2 := hid (hp1 HZR.out hnr)
      clear k4 k5 hr hnr HC
      go_wp2_with (refine wpList_store_row rfl 69 _ _ rfl (w.heap.size + 1) #[.slice ab xs.length cb, .slice ar bd.length cr] rfl rfl 69 _ HZ2.out infoC2 rfl (by simp [Value.oneCell']) ?_)
      obtain ⟨hus, hbs⟩ := run_setRow (cs := #[.slice ab xs.length cb, .slice ar bd.length cr]) HZ2.out
      exact ret_agg rfl Tryd.underlying69 rfl (w.heap.size + 1) #[.slice ab xs.length cb, .slice ar bd.length cr] 69 infoC2 rfl rfl hbs ⟨_, _, _, _, rfl, Far2.since EU.ok (Far2.set EU.ok hus HLL2.out), Far2.since EP.ok (Far2.set EP.ok hus HR.out), (HN2.out.set hus).1⟩
end Go.Proofs.YtbllpajibhiobaaDoor
