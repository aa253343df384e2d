/-
  The bytes of types: the program's Put of limits, tables, globals, functions.
-/
import Derived.Test.YtjagimlmclejeaaJ23
import Derived.Test.YtjagimlmclejeaaJ21
import Derived.Test.YtjagimlmclejeaaJ24
import Derived.Test.YtjagimlmclejeaaJ25
namespace Go.Proofs.Ytjagimlmclejeaa
open Go.RowKit Go.Proofs.Leb Go.Proofs.Own
set_option maxRecDepth 100000
set_option maxHeartbeats 4000000

def bitB (b : Bool) : UInt8 := if b = true then 1 else 0
/-- the bytes of limits, each number in some bytes more -/
def lmB (h : Bool) (mn mx more : Nat) : List UInt8 := bitB h :: (numV mn more ++ if h = true then numV mx more else [])
theorem lmB_len {h : Bool} {mn mx : Nat} (h1 : mn < 4294967296) (h2 : mx < 4294967296) (more : Nat) : (lmB h mn mx more).length ≤ 11 := by
  have a := (numV_len h1 more).2
  have b := (numV_len h2 more).2
  unfold lmB
  rw [List.length_cons, List.length_append]
  split
  · omega
  · simp; omega
/-- a box -/
def Bo (g : Nat) (cs : Array Value) (T : TypeId) (w : World) : Prop := w.heap[g]? = some (.cells cs T)
theorem Bo.new {g : Nat} {cs : Array Value} {T : TypeId} {a b : World} (h : Bo g cs T a) (k : New a b) : Bo g cs T b := hp1 h k
theorem Bo.adds {g : Nat} {cs : Array Value} {T : TypeId} {a b : World} {v v' : Value} (h : Bo g cs T a) (ha : Adds a b v v') (hne : v.ownBlock ≠ some g) : Bo g cs T b := hpB h ha hne
theorem Bo.at {g : Nat} {cs : Array Value} {T : TypeId} {a : World} (h : Bo g cs T a) (i : Nat) {v : Value} (hv : cs[i]? = some v) : a.cell? ⟨g, i, none⟩ = some v := cellAt h i hv
theorem ne_addsG {a b : World} {v v' : Value} {g : Nat} (h : v.ownBlock ≠ some g) (ha : Adds a b v v') (hg : g < a.heap.size) : v'.ownBlock ≠ some g := by
  rcases ha.at' with e | ⟨j, e, hj⟩
  · rw [e]; exact h
  · rw [e]; intro e2; cases e2; omega
theorem Bo.lt {g : Nat} {cs : Array Value} {T : TypeId} {a : World} (h : Bo g cs T a) : g < a.heap.size := (Array.getElem?_eq_some_iff.1 h).1
theorem Bytes.lt {w : World} {v : Value} {bs : List UInt8} (h : Bytes w v bs) (k : Nat) (hk : v.ownBlock = some k) : k < w.heap.size := (World.ownsRow.lt h k hk).2
theorem lit1 (w : World) (n : Nat) (hn : n < 256) : Rd (w.alloc (.cells #[.int .u8 (n : Nat)] 5)) (.slice (some ⟨w.heap.size, 0, none⟩) 1 1) [UInt8.ofNat n] := by
  have hr := Rd.lit w [UInt8.ofNat n] 5
  simp only [List.map_cons, List.map_nil, cb_of _ hn] at hr
  exact hr
theorem rd1 {w : World} {g n : Nat} {T : TypeId} (h : w.heap[g]? = some (.cells #[.int .u8 (n : Nat)] T)) (hn : n < 256) : Rd w (.slice (some ⟨g, 0, none⟩) 1 1) [UInt8.ofNat n] := by
  refine ⟨_, _, rfl, Nat.le_refl _, (fun h => by cases h), fun _ => ⟨_, _, rfl, fun i hi => ?_⟩⟩
  have : i = 0 := by simp at hi; exact hi
  subst this
  rw [cellAt h 0 rfl]
  exact congrArg some (cb_of _ hn).symm
theorem lmPut_any (h : Bool) (mn mx : Nat) (v : Value) (bs : List UInt8) (w : World) (hb : Bytes w v bs) (h1 : bs.length ≤ 1000000) (hm : mn < 4294967296) (hx : mx < 4294967296) :
    Calls Try.prog 23 #[.agg #[.bool h, .int .u32 mn, .int .u32 mx], v] w (Post w v (bs ++ lmB h mn mx 0)) := by
  have HNE : Hid (v.ownBlock ≠ some w.heap.size) := fun e => by have := hb.lt _ e; omega
  have HN : Hid (New w (w.alloc (.cells #[.bool h, .int .u32 mn, .int .u32 mx] 37))) := (Upd.refl _ _).alloc _
  have HZ : Hid (Bo w.heap.size #[.bool h, .int .u32 mn, .int .u32 mx] 37 (w.alloc (.cells #[.bool h, .int .u32 mn, .int .u32 mx] 37))) := hp_new rfl
  have HB := hid (hb.new HN.out)
  have e1 : IntKind.u64.wrap (mn : Int) = (mn : Int) := IntWalk.u64_in _ (by omega)
  have e2 : IntKind.u64.wrap (mx : Int) = (mx : Int) := IntWalk.u64_in _ (by omega)
  have hl1 := (numV_len hm 0).2
  have hl2 := (numV_len hx 0).2
  rw [numV_zero hm] at hl1
  rw [numV_zero hx] at hl2
  have HP := hid (fun v bs n w => putU_any v bs n w)
  clear hb
  cases h with
  | false =>
    have HE : Hid (bs ++ lmB false mn mx 0 = bs ++ [0] ++ encU mn 0) := by
      show _ = _
      unfold lmB bitB
      rw [numV_zero hm, numV_zero hx]
      simp
    rw [HE.out]
    go_enter Try.func23, Try.ntmps23
    go_wp2_with fail
    generalize w.alloc (.cells #[.bool false, .int .u32 mn, .int .u32 mx] 37) = w0 at *
    have hn := HZ.out.new (Upd.refl _ w0).drew
    have hN := New.trans HN.out (Upd.refl _ w0).drew
    have hb := HB.out.new (Upd.refl _ w0).drew
    refine wp_region_noPanic ?_
    refine wp_region_held_drew (S := (Bo w.heap.size #[.bool false, .int .u32 mn, .int .u32 mx] 37)) (by kernel_rfl) (by first | exact hn | exact (Upd.refl _ _).drew | exact Upd.drew (by assumption)) (fun hn => ?_)
    generalize w0.drew = wd at *
    refine wpAnyH_take (i := 0) (oi := { dst := some 8, op := Op.move (Operand.tmp 1), type := 50, pos := "wtype.go:88", after := #[], guard := none }) (v := ?v1x1) rfl (by kernel_rfl) (by kernel_rfl) (by kernel_rfl) (fun _ _ _ h => h) (Or.inl ⟨by rfl, ?y1x1⟩) hn ?r1x1
    case y1x1 => (intro wS hS; (try go_simp); (try with_reducible rfl))
    try simp only [Act.put, List.setIfInBounds_toArray, List.set_cons_zero, List.set_cons_succ]
    refine wpAnyH_take (i := 3) (oi := { dst := some 11, op := Op.fieldAddr 37 (Operand.tmp 2) 1, type := 0, pos := "wtype.go:88", after := #[], guard := none }) (v := ?v1x2) rfl (by kernel_rfl) (by kernel_rfl) (by kernel_rfl) (fun _ _ _ h => h) (Or.inl ⟨by rfl, ?y1x2⟩) hn ?r1x2
    case y1x2 => (intro wS hS; (try go_simp); (try with_reducible rfl))
    try simp only [Act.put, List.setIfInBounds_toArray, List.set_cons_zero, List.set_cons_succ]
    refine wpAnyH_take (i := 4) (oi := { dst := some 12, op := Op.load 24 (Operand.tmp 11), type := 24, pos := "wtype.go:88", after := #[{ on := 3, ground := Ground.data }], guard := none }) (v := ?v1x3) rfl (by kernel_rfl) (by kernel_rfl) (by kernel_rfl) (fun _ _ _ h => h) (Or.inl ⟨by rfl, ?y1x3⟩) hn ?r1x3
    case y1x3 => (intro wS hS; have c0 := hS.at 1 rfl; (try go_simp); (try with_reducible rfl))
    try simp only [Act.put, List.setIfInBounds_toArray, List.set_cons_zero, List.set_cons_succ]
    refine wpAnyH_take (i := 5) (oi := { dst := some 13, op := Op.convert 24 78 (Operand.tmp 12), type := 78, pos := "wtype.go:88", after := #[{ on := 4, ground := Ground.data }], guard := none }) (v := ?v1x4) rfl (by kernel_rfl) (by kernel_rfl) (by kernel_rfl) (fun _ _ _ h => h) (Or.inl ⟨by rfl, ?y1x4⟩) hn ?r1x4
    case y1x4 => (intro wS hS; (try go_simp); (try with_reducible rfl))
    try simp only [Act.put, List.setIfInBounds_toArray, List.set_cons_zero, List.set_cons_succ]
    refine wpAnyH_ready (rs := [1]) (by kernel_rfl) (by simp) ?_
    refine AllReadyH.cons (o := { dst := some 9, op := Op.buildSlice 50 1 #[(0, Operand.const (Value.int IntKind.u8 0))], type := 50, pos := "wtype.go:88", after := #[], guard := none }) rfl (fun K hK => ?_) AllReadyH.nil
    go_simp
    have hu := (Upd.refl (fun _ => False) wd).alloc (.cells #[.int .u8 0] 5)
    have hr := lit1 wd 0 (by decide)
    have hn := hn.new hu
    have hb := hb.new hu
    have hN := New.trans hN hu
    generalize wd.alloc (.cells #[.int .u8 0] 5) = W2 at *
    refine hK.out _ _ (by first | exact hn | exact Upd.alloc hn _) (fun hn => ?_)
    clear hK K
    try simp only [Act.put, List.setIfInBounds_toArray, List.set_cons_zero, List.set_cons_succ]
    refine wpAnyH_ready (rs := [2]) (by kernel_rfl) (by simp) ?_
    refine AllReadyH.cons (o := { dst := some 10, op := Op.call { callee := Callee.builtin Builtin.append, args := #[Operand.tmp 8, Operand.tmp 9], argTypes := #[50, 50] }, type := 50, pos := "wtype.go:88", after := #[{ on := 0, ground := Ground.data }, { on := 1, ground := Ground.data }], guard := none }) rfl (fun K hK => ?_) AllReadyH.nil
    refine stepR _ _ hb hr ?_ rfl rfl rfl rfl ?_
    · (simp only [List.length_cons, List.length_nil]; omega)
    intro v1 W3 hb1 ha1
    have hn1 := hn.adds ha1 HNE.out
    have hne1 := ne_addsG HNE.out ha1 hn.lt
    have hn := hn1
    clear hn1
    refine hK.out _ _ (by first | exact hn | exact Upd.alloc hn _) (fun hn => ?_)
    clear hK K
    try simp only [Act.put, List.setIfInBounds_toArray, List.set_cons_zero, List.set_cons_succ]
    refine wpAnyH_ready (rs := [6]) (by kernel_rfl) (by simp) ?_
    refine AllReadyH.cons (o := { dst := some 14, op := Op.call { callee := Callee.value (Operand.func 43), args := #[Operand.tmp 10, Operand.tmp 13], argTypes := #[50, 78] }, type := 50, pos := "wtype.go:88", after := #[{ on := 2, ground := Ground.data }, { on := 5, ground := Ground.data }, { on := 2, ground := Ground.chain }], guard := none }) rfl (fun K hK => ?_) AllReadyH.nil
    go_simp
    refine (HP.out _ _ mn _ (by omega) (by simp only [List.length_append, List.length_cons, List.length_nil]; omega) hb1).mono ?_
    rintro e W4 ⟨v2, rfl, hb2, ha2⟩
    go_wp2_with fail
    have hn := hn.adds ha2 hne1
    refine hK.out _ _ (by first | exact hn | exact Upd.alloc hn _) (fun hn => ?_)
    clear hK K
    try simp only [Act.put, List.setIfInBounds_toArray, List.set_cons_zero, List.set_cons_succ]
    refine wpAnyH_take (i := 7) (oi := { dst := some 4, op := Op.assign (Operand.tmp 14), type := 50, pos := "wtype.go:88", after := #[{ on := 6, ground := Ground.data }, { on := 6, ground := Ground.chain }, { on := 0, ground := Ground.phase }, { on := 1, ground := Ground.phase }, { on := 2, ground := Ground.phase }, { on := 3, ground := Ground.phase }, { on := 4, ground := Ground.phase }, { on := 5, ground := Ground.phase }, { on := 6, ground := Ground.phase }], guard := none }) (v := ?v1x5) rfl (by kernel_rfl) (by kernel_rfl) (by kernel_rfl) (fun _ _ _ h => h) (Or.inl ⟨by rfl, ?y1x5⟩) hn ?r1x5
    case y1x5 => (intro wS hS; (try go_simp); (try with_reducible rfl))
    try simp only [Act.put, List.setIfInBounds_toArray, List.set_cons_zero, List.set_cons_succ]
    refine wpAnyH_done (by kernel_rfl) ?_ _
    refine NoPanic.normal ?_
    have HA := hid (Adds.ahead hN (ha1.trans ha2))
    have HB2 := hid hb2
    obtain ⟨a, c, rfl⟩ := hb2.rd.shape
    clear hb2 ha1 ha2 hb1 hb hn hN hr
    go_wp2_with fail
    go_ret
    exact ⟨_, rfl, HB2.out, HA.out⟩
  | true =>
    have HE : Hid (bs ++ lmB true mn mx 0 = bs ++ [1] ++ encU mn 0 ++ encU mx 0) := by
      show _ = _
      unfold lmB bitB
      rw [numV_zero hm, numV_zero hx]
      simp
    rw [HE.out]
    go_enter Try.func23, Try.ntmps23
    go_wp2_with fail
    generalize w.alloc (.cells #[.bool true, .int .u32 mn, .int .u32 mx] 37) = w0 at *
    have hn := HZ.out.new (Upd.refl _ w0).drew
    have hN := New.trans HN.out (Upd.refl _ w0).drew
    have hb := HB.out.new (Upd.refl _ w0).drew
    refine wp_region_noPanic ?_
    refine wp_region_held_drew (S := (Bo w.heap.size #[.bool true, .int .u32 mn, .int .u32 mx] 37)) (by kernel_rfl) (by first | exact hn | exact (Upd.refl _ _).drew | exact Upd.drew (by assumption)) (fun hn => ?_)
    generalize w0.drew = wd at *
    refine wpAnyH_take (i := 0) (oi := { dst := some 15, op := Op.move (Operand.tmp 1), type := 50, pos := "wtype.go:90", after := #[], guard := none }) (v := ?v2x1) rfl (by kernel_rfl) (by kernel_rfl) (by kernel_rfl) (fun _ _ _ h => h) (Or.inl ⟨by rfl, ?y2x1⟩) hn ?r2x1
    case y2x1 => (intro wS hS; (try go_simp); (try with_reducible rfl))
    try simp only [Act.put, List.setIfInBounds_toArray, List.set_cons_zero, List.set_cons_succ]
    refine wpAnyH_take (i := 3) (oi := { dst := some 18, op := Op.fieldAddr 37 (Operand.tmp 2) 1, type := 0, pos := "wtype.go:90", after := #[], guard := none }) (v := ?v2x2) rfl (by kernel_rfl) (by kernel_rfl) (by kernel_rfl) (fun _ _ _ h => h) (Or.inl ⟨by rfl, ?y2x2⟩) hn ?r2x2
    case y2x2 => (intro wS hS; (try go_simp); (try with_reducible rfl))
    try simp only [Act.put, List.setIfInBounds_toArray, List.set_cons_zero, List.set_cons_succ]
    refine wpAnyH_take (i := 4) (oi := { dst := some 19, op := Op.load 24 (Operand.tmp 18), type := 24, pos := "wtype.go:90", after := #[{ on := 3, ground := Ground.data }], guard := none }) (v := ?v2x3) rfl (by kernel_rfl) (by kernel_rfl) (by kernel_rfl) (fun _ _ _ h => h) (Or.inl ⟨by rfl, ?y2x3⟩) hn ?r2x3
    case y2x3 => (intro wS hS; have c0 := hS.at 1 rfl; (try go_simp); (try with_reducible rfl))
    try simp only [Act.put, List.setIfInBounds_toArray, List.set_cons_zero, List.set_cons_succ]
    refine wpAnyH_take (i := 5) (oi := { dst := some 20, op := Op.convert 24 78 (Operand.tmp 19), type := 78, pos := "wtype.go:90", after := #[{ on := 4, ground := Ground.data }], guard := none }) (v := ?v2x4) rfl (by kernel_rfl) (by kernel_rfl) (by kernel_rfl) (fun _ _ _ h => h) (Or.inl ⟨by rfl, ?y2x4⟩) hn ?r2x4
    case y2x4 => (intro wS hS; (try go_simp); (try with_reducible rfl))
    try simp only [Act.put, List.setIfInBounds_toArray, List.set_cons_zero, List.set_cons_succ]
    refine wpAnyH_take (i := 7) (oi := { dst := some 22, op := Op.fieldAddr 37 (Operand.tmp 2) 2, type := 0, pos := "wtype.go:90", after := #[], guard := none }) (v := ?v2x5) rfl (by kernel_rfl) (by kernel_rfl) (by kernel_rfl) (fun _ _ _ h => h) (Or.inl ⟨by rfl, ?y2x5⟩) hn ?r2x5
    case y2x5 => (intro wS hS; (try go_simp); (try with_reducible rfl))
    try simp only [Act.put, List.setIfInBounds_toArray, List.set_cons_zero, List.set_cons_succ]
    refine wpAnyH_take (i := 8) (oi := { dst := some 23, op := Op.load 24 (Operand.tmp 22), type := 24, pos := "wtype.go:90", after := #[{ on := 7, ground := Ground.data }], guard := none }) (v := ?v2x6) rfl (by kernel_rfl) (by kernel_rfl) (by kernel_rfl) (fun _ _ _ h => h) (Or.inl ⟨by rfl, ?y2x6⟩) hn ?r2x6
    case y2x6 => (intro wS hS; have c0 := hS.at 2 rfl; (try go_simp); (try with_reducible rfl))
    try simp only [Act.put, List.setIfInBounds_toArray, List.set_cons_zero, List.set_cons_succ]
    refine wpAnyH_take (i := 9) (oi := { dst := some 24, op := Op.convert 24 78 (Operand.tmp 23), type := 78, pos := "wtype.go:90", after := #[{ on := 8, ground := Ground.data }], guard := none }) (v := ?v2x7) rfl (by kernel_rfl) (by kernel_rfl) (by kernel_rfl) (fun _ _ _ h => h) (Or.inl ⟨by rfl, ?y2x7⟩) hn ?r2x7
    case y2x7 => (intro wS hS; (try go_simp); (try with_reducible rfl))
    try simp only [Act.put, List.setIfInBounds_toArray, List.set_cons_zero, List.set_cons_succ]
    refine wpAnyH_ready (rs := [1]) (by kernel_rfl) (by simp) ?_
    refine AllReadyH.cons (o := { dst := some 16, op := Op.buildSlice 50 1 #[(0, Operand.const (Value.int IntKind.u8 1))], type := 50, pos := "wtype.go:90", after := #[], guard := none }) rfl (fun K hK => ?_) AllReadyH.nil
    go_simp
    have hu := (Upd.refl (fun _ => False) wd).alloc (.cells #[.int .u8 1] 5)
    have hr := lit1 wd 1 (by decide)
    have hn := hn.new hu
    have hb := hb.new hu
    have hN := New.trans hN hu
    generalize wd.alloc (.cells #[.int .u8 1] 5) = W2 at *
    refine hK.out _ _ (by first | exact hn | exact Upd.alloc hn _) (fun hn => ?_)
    clear hK K
    try simp only [Act.put, List.setIfInBounds_toArray, List.set_cons_zero, List.set_cons_succ]
    refine wpAnyH_ready (rs := [2]) (by kernel_rfl) (by simp) ?_
    refine AllReadyH.cons (o := { dst := some 17, op := Op.call { callee := Callee.builtin Builtin.append, args := #[Operand.tmp 15, Operand.tmp 16], argTypes := #[50, 50] }, type := 50, pos := "wtype.go:90", after := #[{ on := 0, ground := Ground.data }, { on := 1, ground := Ground.data }], guard := none }) rfl (fun K hK => ?_) AllReadyH.nil
    refine stepR _ _ hb hr ?_ rfl rfl rfl rfl ?_
    · (simp only [List.length_cons, List.length_nil]; omega)
    intro v1 W3 hb1 ha1
    have hn1 := hn.adds ha1 HNE.out
    have hne1 := ne_addsG HNE.out ha1 hn.lt
    have hn := hn1
    clear hn1
    refine hK.out _ _ (by first | exact hn | exact Upd.alloc hn _) (fun hn => ?_)
    clear hK K
    try simp only [Act.put, List.setIfInBounds_toArray, List.set_cons_zero, List.set_cons_succ]
    refine wpAnyH_ready (rs := [6]) (by kernel_rfl) (by simp) ?_
    refine AllReadyH.cons (o := { dst := some 21, op := Op.call { callee := Callee.value (Operand.func 43), args := #[Operand.tmp 17, Operand.tmp 20], argTypes := #[50, 78] }, type := 50, pos := "wtype.go:90", after := #[{ on := 2, ground := Ground.data }, { on := 5, ground := Ground.data }, { on := 2, ground := Ground.chain }], guard := none }) rfl (fun K hK => ?_) AllReadyH.nil
    go_simp
    refine (HP.out _ _ mn _ (by omega) (by simp only [List.length_append, List.length_cons, List.length_nil]; omega) hb1).mono ?_
    rintro e W4 ⟨v2, rfl, hb2, ha2⟩
    go_wp2_with fail
    have hne2 := ne_addsG hne1 ha2 hn.lt
    have hn := hn.adds ha2 hne1
    refine hK.out _ _ (by first | exact hn | exact Upd.alloc hn _) (fun hn => ?_)
    clear hK K
    try simp only [Act.put, List.setIfInBounds_toArray, List.set_cons_zero, List.set_cons_succ]
    refine wpAnyH_ready (rs := [10]) (by kernel_rfl) (by simp) ?_
    refine AllReadyH.cons (o := { dst := some 25, op := Op.call { callee := Callee.value (Operand.func 43), args := #[Operand.tmp 21, Operand.tmp 24], argTypes := #[50, 78] }, type := 50, pos := "wtype.go:90", after := #[{ on := 6, ground := Ground.data }, { on := 9, ground := Ground.data }, { on := 6, ground := Ground.chain }], guard := none }) rfl (fun K hK => ?_) AllReadyH.nil
    go_simp
    refine (HP.out _ _ mx _ (by omega) (by simp only [List.length_append, List.length_cons, List.length_nil]; omega) hb2).mono ?_
    rintro e W5 ⟨v3, rfl, hb3, ha3⟩
    go_wp2_with fail
    have hn := hn.adds ha3 hne2
    refine hK.out _ _ (by first | exact hn | exact Upd.alloc hn _) (fun hn => ?_)
    clear hK K
    try simp only [Act.put, List.setIfInBounds_toArray, List.set_cons_zero, List.set_cons_succ]
    refine wpAnyH_take (i := 11) (oi := { dst := some 4, op := Op.assign (Operand.tmp 25), type := 50, pos := "wtype.go:90", after := #[{ on := 10, ground := Ground.data }, { on := 10, ground := Ground.chain }, { on := 0, ground := Ground.phase }, { on := 1, ground := Ground.phase }, { on := 2, ground := Ground.phase }, { on := 3, ground := Ground.phase }, { on := 4, ground := Ground.phase }, { on := 5, ground := Ground.phase }, { on := 6, ground := Ground.phase }, { on := 7, ground := Ground.phase }, { on := 8, ground := Ground.phase }, { on := 9, ground := Ground.phase }, { on := 10, ground := Ground.phase }], guard := none }) (v := ?v2x8) rfl (by kernel_rfl) (by kernel_rfl) (by kernel_rfl) (fun _ _ _ h => h) (Or.inl ⟨by rfl, ?y2x8⟩) hn ?r2x8
    case y2x8 => (intro wS hS; (try go_simp); (try with_reducible rfl))
    try simp only [Act.put, List.setIfInBounds_toArray, List.set_cons_zero, List.set_cons_succ]
    refine wpAnyH_done (by kernel_rfl) ?_ _
    refine NoPanic.normal ?_
    have HA := hid (Adds.ahead hN ((ha1.trans ha2).trans ha3))
    have HB2 := hid hb3
    obtain ⟨a, c, rfl⟩ := hb3.rd.shape
    clear hb3 ha3 hb2 ha1 ha2 hb1 hb hn hN hr
    go_wp2_with fail
    go_ret
    exact ⟨_, rfl, HB2.out, HA.out⟩
def tbB (e : UInt8) (h : Bool) (mn mx more : Nat) : List UInt8 := e :: lmB h mn mx more
theorem tbPut_any (e : UInt8) (h : Bool) (mn mx : Nat) (v : Value) (bs : List UInt8) (w : World) (hb : Bytes w v bs) (h1 : bs.length ≤ 100000) (hm : mn < 4294967296) (hx : mx < 4294967296) :
    Calls Try.prog 25 #[.agg #[.int .u8 e.toNat, .bool h, .int .u32 mn, .int .u32 mx], v] w (Post w v (bs ++ tbB e h mn mx 0)) := by
  have HNE : Hid (v.ownBlock ≠ some w.heap.size) := fun e => by have := hb.lt _ e; omega
  have HN : Hid (New w (w.alloc (.cells #[.int .u8 e.toNat, .bool h, .int .u32 mn, .int .u32 mx] 41))) := (Upd.refl _ _).alloc _
  have HZ : Hid (Bo w.heap.size #[.int .u8 e.toNat, .bool h, .int .u32 mn, .int .u32 mx] 41 (w.alloc (.cells #[.int .u8 e.toNat, .bool h, .int .u32 mn, .int .u32 mx] 41))) := hp_new rfl
  have HB := hid (hb.new HN.out)
  have HP := hid (fun v w (hb : Bytes w v (bs ++ [e])) => lmPut_any h mn mx v (bs ++ [e]) w hb (by simp; omega) hm hx)
  have HE : Hid (bs ++ tbB e h mn mx 0 = bs ++ [e] ++ lmB h mn mx 0) := by
    show _ = _
    unfold tbB
    simp
  rw [HE.out]
  obtain ⟨x, hx1⟩ : ∃ x, e.toNat = x := ⟨_, rfl⟩
  have HL : Hid (∀ w : World, Rd (w.alloc (.cells #[.int .u8 (x : Nat)] 5)) (.slice (some ⟨w.heap.size, 0, none⟩) 1 1) [e]) := fun w => by
    have := lit1 w x (by rw [← hx1]; exact u8_lt e)
    rw [← hx1, show UInt8.ofNat e.toNat = e from UInt8.toNat_inj.mp (u8_of _ (u8_lt e)), hx1] at this
    exact this
  have hxl := u8_lt e
  rw [hx1] at HZ HB HN hxl ⊢
  clear hb hx1
  go_enter Try.func25, Try.ntmps25
  go_wp2_with fail
  generalize w.alloc (.cells #[.int .u8 x, .bool h, .int .u32 mn, .int .u32 mx] 41) = w0 at *
  have hn := HZ.out.new (Upd.refl _ w0).drew
  have hN := New.trans HN.out (Upd.refl _ w0).drew
  have hb := HB.out.new (Upd.refl _ w0).drew
  refine wp_region_noPanic ?_
  refine wp_region_held_drew (S := (Bo w.heap.size #[.int .u8 x, .bool h, .int .u32 mn, .int .u32 mx] 41)) (by kernel_rfl) (by first | exact hn | exact (Upd.refl _ _).drew | exact Upd.drew (by assumption)) (fun hn => ?_)
  generalize w0.drew = wd at *
  refine wpAnyH_take (i := 0) (oi := { dst := some 5, op := Op.fieldAddr 41 (Operand.tmp 2) 1, type := 0, pos := "wtype.go:94", after := #[], guard := none }) (v := ?v3x1) rfl (by kernel_rfl) (by kernel_rfl) (by kernel_rfl) (fun _ _ _ h => h) (Or.inl ⟨by rfl, ?y3x1⟩) hn ?r3x1
  case y3x1 => (intro wS hS; (try go_simp); (try with_reducible rfl))
  try simp only [Act.put, List.setIfInBounds_toArray, List.set_cons_zero, List.set_cons_succ]
  refine wpAnyH_take (i := 1) (oi := { dst := some 6, op := Op.load 37 (Operand.tmp 5), type := 37, pos := "wtype.go:94", after := #[{ on := 0, ground := Ground.data }], guard := none }) (v := ?v3x2) rfl (by kernel_rfl) (by kernel_rfl) (by kernel_rfl) (fun _ _ _ h => h) (Or.inl ⟨by rfl, ?y3x2⟩) hn ?r3x2
  case y3x2 => (intro wS hS; have c0 := hS.at 1 rfl; have c1 := hS.at 2 rfl; have c2 := hS.at 3 rfl; (try go_simp); (try with_reducible rfl))
  try simp only [Act.put, List.setIfInBounds_toArray, List.set_cons_zero, List.set_cons_succ]
  refine wpAnyH_take (i := 2) (oi := { dst := some 7, op := Op.move (Operand.tmp 1), type := 50, pos := "wtype.go:94", after := #[], guard := none }) (v := ?v3x3) rfl (by kernel_rfl) (by kernel_rfl) (by kernel_rfl) (fun _ _ _ h => h) (Or.inl ⟨by rfl, ?y3x3⟩) hn ?r3x3
  case y3x3 => (intro wS hS; (try go_simp); (try with_reducible rfl))
  try simp only [Act.put, List.setIfInBounds_toArray, List.set_cons_zero, List.set_cons_succ]
  refine wpAnyH_take (i := 3) (oi := { dst := some 8, op := Op.fieldAddr 41 (Operand.tmp 2) 0, type := 0, pos := "wtype.go:94", after := #[], guard := none }) (v := ?v3x4) rfl (by kernel_rfl) (by kernel_rfl) (by kernel_rfl) (fun _ _ _ h => h) (Or.inl ⟨by rfl, ?y3x4⟩) hn ?r3x4
  case y3x4 => (intro wS hS; (try go_simp); (try with_reducible rfl))
  try simp only [Act.put, List.setIfInBounds_toArray, List.set_cons_zero, List.set_cons_succ]
  refine wpAnyH_take (i := 4) (oi := { dst := some 9, op := Op.load 39 (Operand.tmp 8), type := 39, pos := "wtype.go:94", after := #[{ on := 3, ground := Ground.data }], guard := none }) (v := ?v3x5) rfl (by kernel_rfl) (by kernel_rfl) (by kernel_rfl) (fun _ _ _ h => h) (Or.inl ⟨by rfl, ?y3x5⟩) hn ?r3x5
  case y3x5 => (intro wS hS; have c0 := hS.at 0 rfl; (try go_simp); (try with_reducible rfl))
  try simp only [Act.put, List.setIfInBounds_toArray, List.set_cons_zero, List.set_cons_succ]
  refine wpAnyH_ready (rs := [5]) (by kernel_rfl) (by simp) ?_
  refine AllReadyH.cons (o := { dst := some 10, op := Op.buildSlice 50 1 #[(0, Operand.tmp 9)], type := 50, pos := "wtype.go:94", after := #[{ on := 4, ground := Ground.data }], guard := none }) rfl (fun K hK => ?_) AllReadyH.nil
  go_simp
  have hu := (Upd.refl (fun _ => False) wd).alloc (.cells #[.int .u8 x] 5)
  have hr := HL.out wd
  have hn := hn.new hu
  have hb := hb.new hu
  have hN := New.trans hN hu
  generalize wd.alloc (.cells #[.int .u8 x] 5) = W2 at *
  refine hK.out _ _ (by first | exact hn | exact Upd.alloc hn _) (fun hn => ?_)
  clear hK K
  try simp only [Act.put, List.setIfInBounds_toArray, List.set_cons_zero, List.set_cons_succ]
  refine wpAnyH_ready (rs := [6]) (by kernel_rfl) (by simp) ?_
  refine AllReadyH.cons (o := { dst := some 11, op := Op.call { callee := Callee.builtin Builtin.append, args := #[Operand.tmp 7, Operand.tmp 10], argTypes := #[50, 50] }, type := 50, pos := "wtype.go:94", after := #[{ on := 2, ground := Ground.data }, { on := 5, ground := Ground.data }], guard := none }) rfl (fun K hK => ?_) AllReadyH.nil
  refine stepR _ _ hb hr ?_ rfl rfl rfl rfl ?_
  · (simp only [List.length_cons, List.length_nil]; omega)
  intro v1 W3 hb1 ha1
  have hn1 := hn.adds ha1 HNE.out
  have hne1 := ne_addsG HNE.out ha1 hn.lt
  have hn := hn1
  clear hn1
  refine hK.out _ _ (by first | exact hn | exact Upd.alloc hn _) (fun hn => ?_)
  clear hK K
  try simp only [Act.put, List.setIfInBounds_toArray, List.set_cons_zero, List.set_cons_succ]
  refine wpAnyH_ready (rs := [7]) (by kernel_rfl) (by simp) ?_
  refine AllReadyH.cons (o := { dst := some 12, op := Op.call { callee := Callee.value (Operand.func 23), args := #[Operand.tmp 6, Operand.tmp 11], argTypes := #[37, 50] }, type := 50, pos := "wtype.go:94", after := #[{ on := 1, ground := Ground.data }, { on := 6, ground := Ground.data }, { on := 6, ground := Ground.chain }], guard := none }) rfl (fun K hK => ?_) AllReadyH.nil
  go_simp
  refine (HP.out _ _ hb1).mono ?_
  rintro e W4 ⟨v2, rfl, hb2, ha2⟩
  go_wp2_with fail
  have hn := hn.adds ha2 hne1
  refine hK.out _ _ (by first | exact hn | exact Upd.alloc hn _) (fun hn => ?_)
  clear hK K
  try simp only [Act.put, List.setIfInBounds_toArray, List.set_cons_zero, List.set_cons_succ]
  refine wpAnyH_take (i := 8) (oi := { dst := some 4, op := Op.assign (Operand.tmp 12), type := 50, pos := "wtype.go:94", after := #[{ on := 7, ground := Ground.data }, { on := 7, ground := Ground.chain }, { on := 0, ground := Ground.phase }, { on := 1, ground := Ground.phase }, { on := 2, ground := Ground.phase }, { on := 3, ground := Ground.phase }, { on := 4, ground := Ground.phase }, { on := 5, ground := Ground.phase }, { on := 6, ground := Ground.phase }, { on := 7, ground := Ground.phase }], guard := none }) (v := ?v3x6) rfl (by kernel_rfl) (by kernel_rfl) (by kernel_rfl) (fun _ _ _ h => h) (Or.inl ⟨by rfl, ?y3x6⟩) hn ?r3x6
  case y3x6 => (intro wS hS; (try go_simp); (try with_reducible rfl))
  try simp only [Act.put, List.setIfInBounds_toArray, List.set_cons_zero, List.set_cons_succ]
  refine wpAnyH_done (by kernel_rfl) ?_ _
  refine NoPanic.normal ?_
  have HA := hid (Adds.ahead hN (ha1.trans ha2))
  have HB2 := hid hb2
  obtain ⟨a, c, rfl⟩ := hb2.rd.shape
  clear hb2 ha1 ha2 hb1 hb hn hN hr
  go_wp2_with fail
  go_ret
  exact ⟨_, rfl, HB2.out, HA.out⟩
def fnB (p r : List UInt8) (more : Nat) : List UInt8 := 96 :: (numV p.length more ++ p ++ (numV r.length more ++ r))
theorem fnPut_any (u1 u2 : Value) (p r : List UInt8) (v : Value) (bs : List UInt8) (w : World) (hb : Bytes w v bs) (h1 : bs.length ≤ 10000) (hp : Rd w u1 p) (hr : Rd w u2 r) (hp1 : Apart v u1) (hp2 : Apart v u2)
    (hl1 : ∀ k, u1.ownBlock = some k → k < w.heap.size) (hl2 : ∀ k, u2.ownBlock = some k → k < w.heap.size) (s1 : p.length ≤ 10000) (s2 : r.length ≤ 10000) :
    Calls Try.prog 19 #[.agg #[u1, u2], v] w (Post w v (bs ++ fnB p r 0)) := by
  have HNE : Hid (v.ownBlock ≠ some w.heap.size) := fun e => by have := hb.lt _ e; omega
  have HN : Hid (New w (w.alloc (.cells #[u1, u2] 35))) := (Upd.refl _ _).alloc _
  have HZ : Hid (Bo w.heap.size #[u1, u2] 35 (w.alloc (.cells #[u1, u2] 35))) := hp_new rfl
  have HB := hid (hb.new HN.out)
  have HR1 := hid (hp.new HN.out)
  have HR2 := hid (hr.new HN.out)
  have HP := hid (fun v l (bs ds : List UInt8) w => putVals_any v l bs ds w)
  have h5 := (numV_len (v := p.length) (by omega) 0).2
  have HE : Hid (bs ++ fnB p r 0 = bs ++ [96] ++ (encU p.length 0 ++ p) ++ (encU r.length 0 ++ r)) := by
    show _ = _
    unfold fnB
    rw [numV_zero (by omega), numV_zero (by omega)]
    simp
  rw [HE.out]
  rw [numV_zero (by omega)] at h5
  have HA1 := hid hp1
  have HA2 := hid hp2
  have HL1 := hid (fun k h => Nat.lt_of_lt_of_le (hl1 k h) HN.out.size)
  have HL2 := hid (fun k h => Nat.lt_of_lt_of_le (hl2 k h) HN.out.size)
  obtain ⟨a1, c1, rfl⟩ := hp.shape
  obtain ⟨a2, c2, rfl⟩ := hr.shape
  clear hb hp hr hp1 hp2 hl1 hl2
  go_enter Try.func19, Try.ntmps19
  go_wp2_with fail
  generalize w.alloc (.cells #[.slice a1 p.length c1, .slice a2 r.length c2] 35) = w0 at *
  have hn := HZ.out.new (Upd.refl _ w0).drew
  have hN := New.trans HN.out (Upd.refl _ w0).drew
  have hb := HB.out.new (Upd.refl _ w0).drew
  have hr1 := HR1.out.new (Upd.refl _ w0).drew
  have hr2 := HR2.out.new (Upd.refl _ w0).drew
  have hl1 : ∀ k, (Value.slice a1 p.length c1).ownBlock = some k → k < w0.drew.heap.size := HL1.out
  have hl2 : ∀ k, (Value.slice a2 r.length c2).ownBlock = some k → k < w0.drew.heap.size := HL2.out
  refine wp_region_noPanic ?_
  refine wp_region_held_drew (S := (Bo w.heap.size #[.slice a1 p.length c1, .slice a2 r.length c2] 35)) (by kernel_rfl) (by first | exact hn | exact (Upd.refl _ _).drew | exact Upd.drew (by assumption)) (fun hn => ?_)
  generalize w0.drew = wd at *
  refine wpAnyH_take (i := 0) (oi := { dst := some 5, op := Op.move (Operand.tmp 1), type := 50, pos := "wtype.go:82", after := #[], guard := none }) (v := ?v4x1) rfl (by kernel_rfl) (by kernel_rfl) (by kernel_rfl) (fun _ _ _ h => h) (Or.inl ⟨by rfl, ?y4x1⟩) hn ?r4x1
  case y4x1 => (intro wS hS; (try go_simp); (try with_reducible rfl))
  try simp only [Act.put, List.setIfInBounds_toArray, List.set_cons_zero, List.set_cons_succ]
  refine wpAnyH_take (i := 3) (oi := { dst := some 8, op := Op.fieldAddr 35 (Operand.tmp 2) 0, type := 0, pos := "wtype.go:82", after := #[], guard := none }) (v := ?v4x2) rfl (by kernel_rfl) (by kernel_rfl) (by kernel_rfl) (fun _ _ _ h => h) (Or.inl ⟨by rfl, ?y4x2⟩) hn ?r4x2
  case y4x2 => (intro wS hS; (try go_simp); (try with_reducible rfl))
  try simp only [Act.put, List.setIfInBounds_toArray, List.set_cons_zero, List.set_cons_succ]
  refine wpAnyH_take (i := 4) (oi := { dst := some 9, op := Op.load 33 (Operand.tmp 8), type := 33, pos := "wtype.go:82", after := #[{ on := 3, ground := Ground.data }], guard := none }) (v := ?v4x3) rfl (by kernel_rfl) (by kernel_rfl) (by kernel_rfl) (fun _ _ _ h => h) (Or.inl ⟨by rfl, ?y4x3⟩) hn ?r4x3
  case y4x3 => (intro wS hS; have c0 := hS.at 0 rfl; (try go_simp); (try with_reducible rfl))
  try simp only [Act.put, List.setIfInBounds_toArray, List.set_cons_zero, List.set_cons_succ]
  refine wpAnyH_take (i := 6) (oi := { dst := some 11, op := Op.fieldAddr 35 (Operand.tmp 2) 1, type := 0, pos := "wtype.go:82", after := #[], guard := none }) (v := ?v4x4) rfl (by kernel_rfl) (by kernel_rfl) (by kernel_rfl) (fun _ _ _ h => h) (Or.inl ⟨by rfl, ?y4x4⟩) hn ?r4x4
  case y4x4 => (intro wS hS; (try go_simp); (try with_reducible rfl))
  try simp only [Act.put, List.setIfInBounds_toArray, List.set_cons_zero, List.set_cons_succ]
  refine wpAnyH_take (i := 7) (oi := { dst := some 12, op := Op.load 33 (Operand.tmp 11), type := 33, pos := "wtype.go:82", after := #[{ on := 6, ground := Ground.data }], guard := none }) (v := ?v4x5) rfl (by kernel_rfl) (by kernel_rfl) (by kernel_rfl) (fun _ _ _ h => h) (Or.inl ⟨by rfl, ?y4x5⟩) hn ?r4x5
  case y4x5 => (intro wS hS; have c0 := hS.at 1 rfl; (try go_simp); (try with_reducible rfl))
  try simp only [Act.put, List.setIfInBounds_toArray, List.set_cons_zero, List.set_cons_succ]
  refine wpAnyH_ready (rs := [1]) (by kernel_rfl) (by simp) ?_
  refine AllReadyH.cons (o := { dst := some 6, op := Op.buildSlice 50 1 #[(0, Operand.const (Value.int IntKind.u8 96))], type := 50, pos := "wtype.go:82", after := #[], guard := none }) rfl (fun K hK => ?_) AllReadyH.nil
  go_simp
  have hu := (Upd.refl (fun _ => False) wd).alloc (.cells #[.int .u8 96] 5)
  have hr := lit1 wd 96 (by decide)
  have hn := hn.new hu
  have hb := hb.new hu
  have hr1 := hr1.new hu
  have hr2 := hr2.new hu
  have hl1 := (fun k h => Nat.lt_of_lt_of_le (hl1 k h) hu.size)
  have hl2 := (fun k h => Nat.lt_of_lt_of_le (hl2 k h) hu.size)
  have hN := New.trans hN hu
  generalize wd.alloc (.cells #[.int .u8 96] 5) = W2 at *
  refine hK.out _ _ (by first | exact hn | exact Upd.alloc hn _) (fun hn => ?_)
  clear hK K
  try simp only [Act.put, List.setIfInBounds_toArray, List.set_cons_zero, List.set_cons_succ]
  refine wpAnyH_ready (rs := [2]) (by kernel_rfl) (by simp) ?_
  refine AllReadyH.cons (o := { dst := some 7, op := Op.call { callee := Callee.builtin Builtin.append, args := #[Operand.tmp 5, Operand.tmp 6], argTypes := #[50, 50] }, type := 50, pos := "wtype.go:82", after := #[{ on := 0, ground := Ground.data }, { on := 1, ground := Ground.data }], guard := none }) rfl (fun K hK => ?_) AllReadyH.nil
  refine stepR _ _ hb hr ?_ rfl rfl rfl rfl ?_
  · (simp only [List.length_cons, List.length_nil]; omega)
  intro v1 W3 hb1 ha1
  have hn1 := hn.adds ha1 HNE.out
  have hne1 := ne_addsG HNE.out ha1 hn.lt
  have hr1 := hr1.adds ha1 HA1.out
  have hr2 := hr2.adds ha1 HA2.out
  have hp1 := HA1.out.adds ha1 hl1
  have hp2 := HA2.out.adds ha1 hl2
  have hl1 := (fun k h => Nat.lt_of_lt_of_le (hl1 k h) ha1.upd.size)
  have hl2 := (fun k h => Nat.lt_of_lt_of_le (hl2 k h) ha1.upd.size)
  have hn := hn1
  clear hn1
  refine hK.out _ _ (by first | exact hn | exact Upd.alloc hn _) (fun hn => ?_)
  clear hK K
  try simp only [Act.put, List.setIfInBounds_toArray, List.set_cons_zero, List.set_cons_succ]
  refine wpAnyH_ready (rs := [5]) (by kernel_rfl) (by simp) ?_
  refine AllReadyH.cons (o := { dst := some 10, op := Op.call { callee := Callee.value (Operand.func 21), args := #[Operand.tmp 7, Operand.tmp 9], argTypes := #[50, 33] }, type := 50, pos := "wtype.go:82", after := #[{ on := 2, ground := Ground.data }, { on := 4, ground := Ground.data }, { on := 2, ground := Ground.chain }], guard := none }) rfl (fun K hK => ?_) AllReadyH.nil
  go_simp
  refine (HP.out _ _ _ _ _ hb1 hr1 hp1 (by simp only [List.length_append, List.length_cons, List.length_nil]; omega) (by omega)).mono ?_
  rintro e W4 ⟨v2, rfl, hb2, ha2⟩
  go_wp2_with fail
  have hne2 := ne_addsG hne1 ha2 hn.lt
  have hn := hn.adds ha2 hne1
  have hr2 := hr2.adds ha2 hp2
  have hp2 := hp2.adds ha2 hl2
  refine hK.out _ _ (by first | exact hn | exact Upd.alloc hn _) (fun hn => ?_)
  clear hK K
  try simp only [Act.put, List.setIfInBounds_toArray, List.set_cons_zero, List.set_cons_succ]
  refine wpAnyH_ready (rs := [8]) (by kernel_rfl) (by simp) ?_
  refine AllReadyH.cons (o := { dst := some 13, op := Op.call { callee := Callee.value (Operand.func 21), args := #[Operand.tmp 10, Operand.tmp 12], argTypes := #[50, 33] }, type := 50, pos := "wtype.go:82", after := #[{ on := 5, ground := Ground.data }, { on := 7, ground := Ground.data }, { on := 5, ground := Ground.chain }], guard := none }) rfl (fun K hK => ?_) AllReadyH.nil
  go_simp
  refine (HP.out _ _ _ _ _ hb2 hr2 hp2 (by simp only [List.length_append, List.length_cons, List.length_nil]; omega) (by omega)).mono ?_
  rintro e W5 ⟨v3, rfl, hb3, ha3⟩
  go_wp2_with fail
  have hn := hn.adds ha3 hne2
  refine hK.out _ _ (by first | exact hn | exact Upd.alloc hn _) (fun hn => ?_)
  clear hK K
  try simp only [Act.put, List.setIfInBounds_toArray, List.set_cons_zero, List.set_cons_succ]
  refine wpAnyH_take (i := 9) (oi := { dst := some 4, op := Op.assign (Operand.tmp 13), type := 50, pos := "wtype.go:82", after := #[{ on := 8, ground := Ground.data }, { on := 8, ground := Ground.chain }, { on := 0, ground := Ground.phase }, { on := 1, ground := Ground.phase }, { on := 2, ground := Ground.phase }, { on := 3, ground := Ground.phase }, { on := 4, ground := Ground.phase }, { on := 5, ground := Ground.phase }, { on := 6, ground := Ground.phase }, { on := 7, ground := Ground.phase }, { on := 8, ground := Ground.phase }], guard := none }) (v := ?v4x6) rfl (by kernel_rfl) (by kernel_rfl) (by kernel_rfl) (fun _ _ _ h => h) (Or.inl ⟨by rfl, ?y4x6⟩) hn ?r4x6
  case y4x6 => (intro wS hS; (try go_simp); (try with_reducible rfl))
  try simp only [Act.put, List.setIfInBounds_toArray, List.set_cons_zero, List.set_cons_succ]
  refine wpAnyH_done (by kernel_rfl) ?_ _
  refine NoPanic.normal ?_
  have HA := hid (Adds.ahead hN ((ha1.trans ha2).trans ha3))
  have HB2 := hid hb3
  obtain ⟨a, c, rfl⟩ := hb3.rd.shape
  clear hb3 ha3 hb2 ha1 ha2 hb1 hb hn hN hr hr1 hr2 hl1 hl2 hp1 hp2
  go_wp2_with fail
  go_ret
  exact ⟨_, rfl, HB2.out, HA.out⟩
theorem gtPut_any (t : UInt8) (m : Bool) (v : Value) (bs : List UInt8) (w : World) (hb : Bytes w v bs) (h1 : bs.length ≤ 1000000) :
    Calls Try.prog 27 #[.agg #[.int .u8 t.toNat, .bool m], v] w (Post w v (bs ++ [t, bitB m])) := by
  have HN : Hid (New w (w.alloc (.cells #[.int .u8 t.toNat, .bool m] 44))) := (Upd.refl _ _).alloc _
  have HB := hid (hb.new HN.out)
  have HL : Hid (∀ (w : World) (b : Nat), b < 256 → Rd (w.alloc (.cells #[.int .u8 t.toNat, .int .u8 (b : Nat)] 5)) (.slice (some ⟨w.heap.size, 0, none⟩) 2 2) [t, UInt8.ofNat b]) := fun w b hb => by
    have hr := Rd.lit w [t, UInt8.ofNat b] 5
    simp only [List.map_cons, List.map_nil, cb_of _ hb] at hr
    exact hr
  clear hb
  cases m with
  | false =>
    go_enter Try.func27, Try.ntmps27
    go_wp2_with (at_builtin; refine hold ?_)
    have hu := (Upd.refl (fun _ => False) (w.alloc (.cells #[.int .u8 t.toNat, .bool false] 44))).alloc (.cells #[.int .u8 t.toNat, .int .u8 0] 5)
    refine appR (.tmp 12) (.tmp 15) (HB.out.new hu) (HL.out _ 0 (by decide)) (by simp only [List.length_cons, List.length_nil]; omega) rfl rfl rfl (by rw [World.size_alloc]; rfl) ?_
    intro v1 w1 hb1 ha1
    obtain ⟨L, hL⟩ : ∃ L, bs ++ [t, bitB false] = L := ⟨_, rfl⟩
    have hb1 : Bytes w1 v1 L := by rw [← hL]; exact hb1
    have HB1 := hid hb1
    have HA1 := hid (Adds.ahead (New.trans HN.out hu) ha1)
    have HLL := hid hL
    obtain ⟨a, c, rfl⟩ := hb1.rd.shape
    clear hb1 ha1 hu hL
    go_wp2_with fail
    go_ret
    refine ⟨_, rfl, ?_, HA1.out⟩
    rw [HLL.out]
    exact HB1.out
  | true =>
    go_enter Try.func27, Try.ntmps27
    go_wp2_with (at_builtin; refine hold ?_)
    have hu := (Upd.refl (fun _ => False) (w.alloc (.cells #[.int .u8 t.toNat, .bool true] 44))).alloc (.cells #[.int .u8 t.toNat, .int .u8 1] 5)
    refine appR (.tmp 7) (.tmp 10) (HB.out.new hu) (HL.out _ 1 (by decide)) (by simp only [List.length_cons, List.length_nil]; omega) rfl rfl rfl (by rw [World.size_alloc]; rfl) ?_
    intro v1 w1 hb1 ha1
    obtain ⟨L, hL⟩ : ∃ L, bs ++ [t, bitB true] = L := ⟨_, rfl⟩
    have hb1 : Bytes w1 v1 L := by rw [← hL]; exact hb1
    have HB1 := hid hb1
    have HA1 := hid (Adds.ahead (New.trans HN.out hu) ha1)
    have HLL := hid hL
    obtain ⟨a, c, rfl⟩ := hb1.rd.shape
    clear hb1 ha1 hu hL
    go_wp2_with fail
    go_ret
    refine ⟨_, rfl, ?_, HA1.out⟩
    rw [HLL.out]
    exact HB1.out
end Go.Proofs.Ytjagimlmclejeaa
