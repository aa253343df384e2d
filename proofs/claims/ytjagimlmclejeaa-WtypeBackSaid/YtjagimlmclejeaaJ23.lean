/-
  Types of tables, limits, globals and functions of the document, as the program's.
-/
import Derived.Test.YtjagimlmclejeaaJ22
import Derived.Test.YtjagimlmclejeaaJ18
namespace Go.Proofs.Ytjagimlmclejeaa
open Go.RowKit Go.Proofs.Leb Go.Proofs.Own
set_option maxRecDepth 100000
set_option maxHeartbeats 4000000

theorem own05_any (t : Int) (m : Bool) (w : World) : Calls Try.prog 8 #[.agg #[.int .u8 t, .bool m]] w (fun e w' => e = .returned (.agg #[.int .u8 t, .bool m]) ∧ New w w') := by
  go_enter Try.func8, Try.ntmps8
  go_wp2_with fail
  exact ret_agg rfl Try.underlying44 rfl (w.heap.size + 1) #[.int .u8 t, .bool m] 44 (by kernel_rfl) rfl rfl (hp_new (by simp)) ⟨rfl, ((Upd.refl _ _).alloc _).alloc _⟩
def OwnC0 (cs : Array Value) (w : World) (e : Ending) (w' : World) : Prop := e = .returned (.agg cs) ∧ New w w'
theorem ownLm_any (x : Lm) (w : World) : Calls Try.prog 6 #[.agg (lmC x)] w (OwnC0 (lmC x) w) := by
  obtain ⟨h, mn, mx⟩ := x
  unfold lmC
  simp only
  go_enter Try.func6, Try.ntmps6
  go_wp2_with fail
  exact ret_agg rfl Try.underlying37 rfl (w.heap.size + 1) #[.bool h, .int .u32 mn, .int .u32 mx] 37 (by kernel_rfl) rfl rfl (hp_new (by simp)) ⟨rfl, ((Upd.refl _ _).alloc _).alloc _⟩
theorem infoTb4 : (Try.prog.info? 41).map (·.size) = some 4 := by kernel_rfl
theorem ownTb_any (x : Tb) (w : World) : Calls Try.prog 7 #[.agg (tbC x)] w (OwnC0 (tbC x) w) := by
  have HL := hid (fun w' => ownLm_any ⟨x.h, x.mn, x.mx⟩ w')
  obtain ⟨e, h, mn, mx⟩ := x
  unfold OwnC0 lmC at HL
  unfold tbC
  simp only at *
  have HW : Hid (Fil w #[.int .u8 e, .bool h, .int .u32 mn, .int .u32 mx] 28 ((w.alloc (.cells #[.int .u8 e, .bool h, .int .u32 mn, .int .u32 mx] 28)).alloc (.cells #[.int .u8 0, .bool false, .int .u32 0, .int .u32 0] 41))) := Fil.mk0
  have HZ : Hid (((w.alloc (.cells #[.int .u8 e, .bool h, .int .u32 mn, .int .u32 mx] 28)).alloc (.cells #[.int .u8 0, .bool false, .int .u32 0, .int .u32 0] 41)).heap[w.heap.size + 1]? = some (.cells #[.int .u8 0, .bool false, .int .u32 0, .int .u32 0] 41)) := Fil.mk2
  go_enter Try.func7, Try.ntmps7
  go_wp2_with fail
  generalize (w.alloc (.cells #[.int .u8 e, .bool h, .int .u32 mn, .int .u32 mx] 28)).alloc (.cells #[.int .u8 0, .bool false, .int .u32 0, .int .u32 0] 41) = w0 at *
  have hn := HW.out.new (Upd.refl _ w0).drew
  have hz : w0.drew.heap[w.heap.size + 1]? = some (.cells #[.int .u8 0, .bool false, .int .u32 0, .int .u32 0] 41) := HZ.out
  refine wp_region_noPanic ?_
  refine wp_region_held_drew (S := (Fil w #[.int .u8 e, .bool h, .int .u32 mn, .int .u32 mx] 28)) (by kernel_rfl) (by first | exact hn | exact (Upd.refl _ _).drew | exact Upd.drew (by assumption)) (fun hn => ?_)
  generalize w0.drew = wd at *
  refine wpAnyH_take (i := 0) (oi := { dst := some 3, op := Op.fieldAddr 28 (Operand.tmp 1) 0, type := 0, pos := "law.go:55", after := #[], guard := none }) (v := ?v1x1) rfl (by kernel_rfl) (by kernel_rfl) (by kernel_rfl) (fun _ _ _ h => h) (Or.inl ⟨by rfl, ?y1x1⟩) hn ?r1x1
  case y1x1 => (intro wS hS; (try go_simp); (try with_reducible rfl))
  try simp only [Act.put, List.setIfInBounds_toArray, List.set_cons_zero, List.set_cons_succ]
  refine wpAnyH_take (i := 1) (oi := { dst := some 4, op := Op.load 5 (Operand.tmp 3), type := 5, pos := "law.go:55", after := #[{ on := 0, ground := Ground.data }], guard := none }) (v := ?v1x2) rfl (by kernel_rfl) (by kernel_rfl) (by kernel_rfl) (fun _ _ _ h => h) (Or.inl ⟨by rfl, ?y1x2⟩) hn ?r1x2
  case y1x2 => (intro wS hS; have c0 : wS.cell? ⟨w.heap.size, 0, none⟩ = some (.int .u8 e) := hS.at1 0 rfl; (try go_simp); (try with_reducible rfl))
  try simp only [Act.put, List.setIfInBounds_toArray, List.set_cons_zero, List.set_cons_succ]
  refine wpAnyH_take (i := 2) (oi := { dst := some 5, op := Op.fieldAddr 28 (Operand.tmp 1) 1, type := 0, pos := "law.go:55", after := #[], guard := none }) (v := ?v1x3) rfl (by kernel_rfl) (by kernel_rfl) (by kernel_rfl) (fun _ _ _ h => h) (Or.inl ⟨by rfl, ?y1x3⟩) hn ?r1x3
  case y1x3 => (intro wS hS; (try go_simp); (try with_reducible rfl))
  try simp only [Act.put, List.setIfInBounds_toArray, List.set_cons_zero, List.set_cons_succ]
  refine wpAnyH_take (i := 3) (oi := { dst := some 6, op := Op.load 26 (Operand.tmp 5), type := 26, pos := "law.go:55", after := #[{ on := 2, ground := Ground.data }], guard := none }) (v := ?v1x4) rfl (by kernel_rfl) (by kernel_rfl) (by kernel_rfl) (fun _ _ _ h => h) (Or.inl ⟨by rfl, ?y1x4⟩) hn ?r1x4
  case y1x4 => (intro wS hS; have c0 : wS.cell? ⟨w.heap.size, 1, none⟩ = some (.bool h) := hS.at1 1 rfl; have c1 : wS.cell? ⟨w.heap.size, 2, none⟩ = some (.int .u32 mn) := hS.at1 2 rfl; have c2 : wS.cell? ⟨w.heap.size, 3, none⟩ = some (.int .u32 mx) := hS.at1 3 rfl; (try go_simp); (try with_reducible rfl))
  try simp only [Act.put, List.setIfInBounds_toArray, List.set_cons_zero, List.set_cons_succ]
  refine wpAnyH_ready (rs := [4]) (by kernel_rfl) (by simp) ?_
  refine AllReadyH.cons (o := { dst := some 7, op := Op.call { callee := Callee.value (Operand.func 6), args := #[Operand.tmp 6], argTypes := #[26] }, type := 37, pos := "law.go:55", after := #[{ on := 3, ground := Ground.data }], guard := none }) rfl (fun K hK => ?_) AllReadyH.nil
  go_simp
  refine (HL.out _).mono ?_
  rintro e wq ⟨rfl, hnq⟩
  go_wp2_with fail
  have hn := hn.new hnq
  have hz := hp1 hz hnq
  refine hK.out _ _ (by first | exact hn | exact Upd.alloc hn _) (fun hn => ?_)
  clear hK K
  try simp only [Act.put, List.setIfInBounds_toArray, List.set_cons_zero, List.set_cons_succ]
  refine wpAnyH_take (i := 5) (oi := { dst := some 8, op := Op.build 41 #[(0, Operand.tmp 4), (1, Operand.tmp 7)], type := 41, pos := "law.go:55", after := #[{ on := 1, ground := Ground.data }, { on := 4, ground := Ground.data }], guard := none }) (v := ?v1x5) rfl (by kernel_rfl) (by kernel_rfl) (by kernel_rfl) (fun _ _ _ h => h) (Or.inl ⟨by rfl, ?y1x5⟩) hn ?r1x5
  case y1x5 => (intro wS hS; (try go_simp); (try with_reducible rfl))
  try simp only [Act.put, List.setIfInBounds_toArray, List.set_cons_zero, List.set_cons_succ]
  refine wpAnyH_ready (rs := [6]) (by kernel_rfl) (by simp) ?_
  refine AllReadyH.cons (o := { dst := none, op := Op.store 41 (Operand.tmp 2) (Operand.tmp 8), type := 0, pos := "law.go:55", after := #[{ on := 5, ground := Ground.data }, { on := 4, ground := Ground.chain }, { on := 0, ground := Ground.phase }, { on := 1, ground := Ground.phase }, { on := 2, ground := Ground.phase }, { on := 3, ground := Ground.phase }, { on := 4, ground := Ground.phase }, { on := 5, ground := Ground.phase }], guard := none }) rfl (fun K hK => ?_) AllReadyH.nil
  refine step_store_row 41 _ _ rfl rfl (w.heap.size + 1) #[.int .u8 e, .bool h, .int .u32 mn, .int .u32 mx] rfl rfl 41 _ hz infoTb4 rfl (by simp [Value.oneCell']) ?_
  obtain ⟨hus, hbs⟩ := run_setRow (cs := #[.int .u8 e, .bool h, .int .u32 mn, .int .u32 mx]) hz
  have hn := hn.set hus
  refine hK.out _ _ (by first | exact hn | exact Upd.alloc hn _) (fun hn => ?_)
  clear hK K
  try simp only [Act.put, List.setIfInBounds_toArray, List.set_cons_zero, List.set_cons_succ]
  refine wpAnyH_done (by kernel_rfl) ?_ _
  refine NoPanic.normal ?_
  go_wp2_with fail
  exact ret_agg rfl Try.underlying41 rfl (w.heap.size + 1) #[.int .u8 e, .bool h, .int .u32 mn, .int .u32 mx] 41 infoTb4 rfl rfl hbs ⟨rfl, hn.1⟩
theorem infoFn2 : (Try.prog.info? 35).map (·.size) = some 2 := by kernel_rfl
/-- types of memory made behind the two blocks -/
def RdF (w0 w : World) (v : Value) (bs : List UInt8) : Prop := VBytes w v bs ∧ (∀ k, v.ownBlock = some k → w0.heap.size + 2 ≤ k ∧ k < w.heap.size)
theorem RdF.new {w0 a b : World} {v : Value} {bs : List UInt8} (h : RdF w0 a v bs) (k : New a b) : RdF w0 b v bs := ⟨h.1.new k, fun j hj => ⟨(h.2 j hj).1, Nat.lt_of_lt_of_le (h.2 j hj).2 k.size⟩⟩
theorem RdF.set {w0 a b : World} {v : Value} {bs : List UInt8} (h : RdF w0 a v bs) (k : Upd (fun k => k = w0.heap.size + 1) a b) : RdF w0 b v bs := ⟨h.1.upd k (fun j hj e => by have := (h.2 j hj).1; omega), fun j hj => ⟨(h.2 j hj).1, Nat.lt_of_lt_of_le (h.2 j hj).2 k.size⟩⟩
def OwnFn (x : Fty) (w : World) (e : Ending) (w' : World) : Prop := ∃ u v, e = .returned (.agg #[u, v]) ∧ VBytes w' u (lb x.p) ∧ VBytes w' v (lb x.r) ∧ (∀ k, u.ownBlock = some k → Since8 w w' k) ∧ (∀ k, v.ownBlock = some k → Since8 w w' k) ∧ New w w'
theorem ownFn_any (x : Fty) (w : World) (h1 : x.p.size ≤ 100000) (h2 : x.r.size ≤ 100000) : Calls Try.prog 5 #[.agg #[.string x.p, .string x.r]] w (OwnFn x w) := by
  have HP := hid (fun w' => lawValsV_any x.p w' h1)
  have HR := hid (fun w' => lawValsV_any x.r w' h2)
  obtain ⟨p, r⟩ := x
  simp only at *
  have HW : Hid (Fil w #[.string p, .string r] 23 ((w.alloc (.cells #[.string p, .string r] 23)).alloc (.cells #[.slice none 0 0, .slice none 0 0] 35))) := Fil.mk0
  have HZ : Hid (((w.alloc (.cells #[.string p, .string r] 23)).alloc (.cells #[.slice none 0 0, .slice none 0 0] 35)).heap[w.heap.size + 1]? = some (.cells #[.slice none 0 0, .slice none 0 0] 35)) := Fil.mk2
  go_enter Try.func5, Try.ntmps5
  go_wp2_with fail
  generalize (w.alloc (.cells #[.string p, .string r] 23)).alloc (.cells #[.slice none 0 0, .slice none 0 0] 35) = w0 at *
  have hn := HW.out.new (Upd.refl _ w0).drew
  have hz : w0.drew.heap[w.heap.size + 1]? = some (.cells #[.slice none 0 0, .slice none 0 0] 35) := HZ.out
  refine wp_region_noPanic ?_
  refine wp_region_held_drew (S := (Fil w #[.string p, .string r] 23)) (by kernel_rfl) (by first | exact hn | exact (Upd.refl _ _).drew | exact Upd.drew (by assumption)) (fun hn => ?_)
  generalize w0.drew = wd at *
  refine wpAnyH_take (i := 0) (oi := { dst := some 3, op := Op.fieldAddr 23 (Operand.tmp 1) 0, type := 0, pos := "law.go:35", after := #[], guard := none }) (v := ?v2x1) rfl (by kernel_rfl) (by kernel_rfl) (by kernel_rfl) (fun _ _ _ h => h) (Or.inl ⟨by rfl, ?y2x1⟩) hn ?r2x1
  case y2x1 => (intro wS hS; (try go_simp); (try with_reducible rfl))
  try simp only [Act.put, List.setIfInBounds_toArray, List.set_cons_zero, List.set_cons_succ]
  refine wpAnyH_take (i := 1) (oi := { dst := some 4, op := Op.load 9 (Operand.tmp 3), type := 9, pos := "law.go:35", after := #[{ on := 0, ground := Ground.data }], guard := none }) (v := ?v2x2) rfl (by kernel_rfl) (by kernel_rfl) (by kernel_rfl) (fun _ _ _ h => h) (Or.inl ⟨by rfl, ?y2x2⟩) hn ?r2x2
  case y2x2 => (intro wS hS; have c0 : wS.cell? ⟨w.heap.size, 0, none⟩ = some (.string p) := hS.at1 0 rfl; (try go_simp); (try with_reducible rfl))
  try simp only [Act.put, List.setIfInBounds_toArray, List.set_cons_zero, List.set_cons_succ]
  refine wpAnyH_take (i := 3) (oi := { dst := some 6, op := Op.fieldAddr 23 (Operand.tmp 1) 1, type := 0, pos := "law.go:35", after := #[], guard := none }) (v := ?v2x3) rfl (by kernel_rfl) (by kernel_rfl) (by kernel_rfl) (fun _ _ _ h => h) (Or.inl ⟨by rfl, ?y2x3⟩) hn ?r2x3
  case y2x3 => (intro wS hS; (try go_simp); (try with_reducible rfl))
  try simp only [Act.put, List.setIfInBounds_toArray, List.set_cons_zero, List.set_cons_succ]
  refine wpAnyH_take (i := 4) (oi := { dst := some 7, op := Op.load 9 (Operand.tmp 6), type := 9, pos := "law.go:35", after := #[{ on := 3, ground := Ground.data }], guard := none }) (v := ?v2x4) rfl (by kernel_rfl) (by kernel_rfl) (by kernel_rfl) (fun _ _ _ h => h) (Or.inl ⟨by rfl, ?y2x4⟩) hn ?r2x4
  case y2x4 => (intro wS hS; have c0 : wS.cell? ⟨w.heap.size, 1, none⟩ = some (.string r) := hS.at1 1 rfl; (try go_simp); (try with_reducible rfl))
  try simp only [Act.put, List.setIfInBounds_toArray, List.set_cons_zero, List.set_cons_succ]
  refine wpAnyH_ready (rs := [2]) (by kernel_rfl) (by simp) ?_
  refine AllReadyH.cons (o := { dst := some 5, op := Op.call { callee := Callee.value (Operand.func 40), args := #[Operand.tmp 4], argTypes := #[9] }, type := 33, pos := "law.go:35", after := #[{ on := 1, ground := Ground.data }], guard := none }) rfl (fun K hK => ?_) AllReadyH.nil
  go_simp
  have hs0 := hn.2.2
  refine (HP.out _).mono ?_
  rintro e wq ⟨v1, rfl, hr1, hnq, hf1, hl1⟩
  obtain ⟨a1, n1, d1, rfl⟩ : ∃ a n c, v1 = .slice a n c := (by obtain ⟨a, c, e⟩ := hr1.rd.shape; exact ⟨a, _, c, e⟩)
  go_wp2_with fail
  have hn := hn.new hnq
  have hz := hp1 hz hnq
  have hR1 : RdF w wq (.slice a1 n1 d1) (lb p) := ⟨hr1, fun j hj => ⟨Nat.le_trans hs0 (hf1 j hj), hl1 j hj⟩⟩
  (try have hR2 := hR2.new hnq)
  refine hK.out _ _ (by first | exact hn | exact Upd.alloc hn _) (fun hn => ?_)
  clear hK K
  try simp only [Act.put, List.setIfInBounds_toArray, List.set_cons_zero, List.set_cons_succ]
  refine wpAnyH_ready (rs := [5]) (by kernel_rfl) (by simp) ?_
  refine AllReadyH.cons (o := { dst := some 8, op := Op.call { callee := Callee.value (Operand.func 40), args := #[Operand.tmp 7], argTypes := #[9] }, type := 33, pos := "law.go:35", after := #[{ on := 4, ground := Ground.data }, { on := 2, ground := Ground.chain }], guard := none }) rfl (fun K hK => ?_) AllReadyH.nil
  go_simp
  have hs0 := hn.2.2
  refine (HR.out _).mono ?_
  rintro e wr ⟨v2, rfl, hr2, hnq, hf2, hl2⟩
  obtain ⟨a2, n2, d2, rfl⟩ : ∃ a n c, v2 = .slice a n c := (by obtain ⟨a, c, e⟩ := hr2.rd.shape; exact ⟨a, _, c, e⟩)
  go_wp2_with fail
  have hn := hn.new hnq
  have hz := hp1 hz hnq
  have hR2 : RdF w wr (.slice a2 n2 d2) (lb r) := ⟨hr2, fun j hj => ⟨Nat.le_trans hs0 (hf2 j hj), hl2 j hj⟩⟩
  (try have hR1 := hR1.new hnq)
  refine hK.out _ _ (by first | exact hn | exact Upd.alloc hn _) (fun hn => ?_)
  clear hK K
  try simp only [Act.put, List.setIfInBounds_toArray, List.set_cons_zero, List.set_cons_succ]
  refine wpAnyH_take (i := 6) (oi := { dst := some 9, op := Op.build 35 #[(0, Operand.tmp 5), (1, Operand.tmp 8)], type := 35, pos := "law.go:35", after := #[{ on := 2, ground := Ground.data }, { on := 5, ground := Ground.data }], guard := none }) (v := ?v2x5) rfl (by kernel_rfl) (by kernel_rfl) (by kernel_rfl) (fun _ _ _ h => h) (Or.inl ⟨by rfl, ?y2x5⟩) hn ?r2x5
  case y2x5 => (intro wS hS; (try go_simp); (try with_reducible rfl))
  try simp only [Act.put, List.setIfInBounds_toArray, List.set_cons_zero, List.set_cons_succ]
  refine wpAnyH_ready (rs := [7]) (by kernel_rfl) (by simp) ?_
  refine AllReadyH.cons (o := { dst := none, op := Op.store 35 (Operand.tmp 2) (Operand.tmp 9), type := 0, pos := "law.go:35", after := #[{ on := 6, ground := Ground.data }, { on := 5, ground := Ground.chain }, { on := 0, ground := Ground.phase }, { on := 1, ground := Ground.phase }, { on := 2, ground := Ground.phase }, { on := 3, ground := Ground.phase }, { on := 4, ground := Ground.phase }, { on := 5, ground := Ground.phase }, { on := 6, ground := Ground.phase }], guard := none }) rfl (fun K hK => ?_) AllReadyH.nil
  refine step_store_row 35 _ _ rfl rfl (w.heap.size + 1) #[.slice a1 n1 d1, .slice a2 n2 d2] rfl rfl 35 _ hz infoFn2 rfl (by simp [Value.oneCell']) ?_
  obtain ⟨hus, hbs⟩ := run_setRow (cs := #[.slice a1 n1 d1, .slice a2 n2 d2]) hz
  have hn := hn.set hus
  have hR1 := hR1.set hus
  have hR2 := hR2.set hus
  refine hK.out _ _ (by first | exact hn | exact Upd.alloc hn _) (fun hn => ?_)
  clear hK K
  try simp only [Act.put, List.setIfInBounds_toArray, List.set_cons_zero, List.set_cons_succ]
  refine wpAnyH_done (by kernel_rfl) ?_ _
  refine NoPanic.normal ?_
  go_wp2_with fail
  exact ret_agg rfl Try.underlying35 rfl (w.heap.size + 1) #[.slice a1 n1 d1, .slice a2 n2 d2] 35 infoFn2 rfl rfl hbs ⟨_, _, rfl, hR1.1, hR2.1, (fun j hj => ⟨by have := (hR1.2 j hj).1; omega, (hR1.2 j hj).2⟩), (fun j hj => ⟨by have := (hR2.2 j hj).1; omega, (hR2.2 j hj).2⟩), hn.1⟩
end Go.Proofs.Ytjagimlmclejeaa
