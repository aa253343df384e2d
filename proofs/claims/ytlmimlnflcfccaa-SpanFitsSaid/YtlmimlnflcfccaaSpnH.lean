/-
  The laws of spans: SpanFits.
-/
import Derived.Test.YtlmimlnflcfccaaSpnG
import Derived.Test.YtlmimlnflcfccaaSpnA
import Derived.Test.YtlmimlnflcfccaaOpen
namespace Go.Proofs.Ytlmimlnflcfccaa
open Go.RowKit Go.Proofs.Own Go.Proofs.Span
set_option maxRecDepth 100000
set_option maxHeartbeats 1600000

def pc (p : Nat × Nat) : List Value := [.int .u64 p.1, .int .u64 p.2]
/-- v is a row of ranges that the call owns -/
def Pairs (w : World) (v : Value) (rs : List (Nat × Nat)) : Prop := w.ownsRow 0 58 2 v rs.length (rs.flatMap pc)
theorem Pairs.new {w w' : World} {v : Value} {rs : List (Nat × Nat)} (h : Pairs w v rs) (hu : New w w') : Pairs w' v rs := ownsRow_new h hu
theorem Pairs.nil (w : World) : Pairs w (.slice none 0 0) [] := World.ownsRow_nil w 0 _ 2
theorem pc_at : ∀ (rs : List (Nat × Nat)) (i : Nat) (h : i < rs.length), (rs.flatMap pc)[i * 2]? = some (.int .u64 rs[i].1) ∧ (rs.flatMap pc)[i * 2 + 1]? = some (.int .u64 rs[i].2)
  | [], i, h => absurd h (Nat.not_lt_zero _)
  | p :: t, 0, _ => ⟨rfl, rfl⟩
  | p :: t, i + 1, h => by
    have := pc_at t i (by simpa using h)
    simpa [pc, Nat.add_mul, List.getElem?_cons] using this
theorem Pairs.shape {w : World} {v : Value} {rs : List (Nat × Nat)} (h : Pairs w v rs) : ∃ a cap, v = .slice a rs.length cap := by
  rcases h.2 with ⟨rfl, hn⟩ | ⟨g, cap, cur, rfl, _⟩
  · exact ⟨none, 0, by rw [hn]⟩
  · exact ⟨_, cap, rfl⟩
theorem Pairs.rdp {w : World} {v : Value} {rs : List (Nat × Nat)} (h : Pairs w v rs) : RdP w v rs := by
  have h0 := h
  obtain ⟨h1, h2⟩ := h
  rcases h2 with ⟨rfl, hn⟩ | ⟨g, cap, cur, rfl, _, hg, hn, hm, hs, ht⟩
  · have : rs = [] := List.eq_nil_of_length_eq_zero hn
    subst this
    exact ⟨none, 0, rfl, Nat.le_refl _, fun _ => rfl, fun h => absurd rfl h⟩
  · refine ⟨_, cap, rfl, hn, (fun h => by cases h), fun _ => ⟨g, 0, rfl, fun i hi => ?_⟩⟩
    have c := pc_at rs i hi
    have k0 := World.ownsRow.cells (g := g) h0 rfl _ _ c.1
    have k1 := World.ownsRow.cells (g := g) h0 rfl _ _ c.2
    rw [Addr.add_lit] at k0 k1
    exact ⟨k0, k1⟩

theorem info58 : (Try.prog.info? 58).map (fun i => (i.zero, i.size, i.bytes)) = some (some (.agg #[.int .u64 0, .int .u64 0]), 2, 16) := by kernel_rfl

/-- one range more, as a step of a region that draws its order -/
theorem stepP {ops : Array Oper} {o : Oper} {a : Act} {w : World} {K : Act → World → Prop} {Q : Exit → Act → World → Prop} {E : Prop} (s x : Operand) {sv : Value} {rs : List (Nat × Nat)} (p q : Nat) {g : Nat} {t : TypeId}
    (hb : Pairs w sv rs) (hz : Blk w g (.int .u64 p) (.int .u64 q) t) (hl : rs.length ≤ 1000000) (hw : Region.wanted o (yielded ops a.tmps) = true)
    (ho : o.op = .call { callee := .builtin .append, args := #[s, x], argTypes := #[65, 65] }) (hs : a.eval s = sv) (hx : a.eval x = .slice (some ⟨g, 0, none⟩) 1 1)
    (h : ∀ v' w', Pairs w' v' (rs ++ [(p, q)]) → Adds w w' sv v' → K (a.put o.dst v') w') :
    if Region.wanted o (yielded ops a.tmps) = true then Oper.wp Try.prog o a w K Q else E := by
  refine step_append 65 58 2 16 (.agg #[.int .u64 0, .int .u64 0]) info58 Try.underlying65 rfl (by decide) s x hw ho 0 sv rs.length (rs.flatMap pc) hs hb ⟨g, 0, none⟩ 1 1 (pc (p, q)) hx rfl ?_ ?_
    (by unfold maxLen; omega) (by omega) (Nat.zero_le _) ?_
  · intro j u hj
    match j, hj with
    | 0, hj => simp [pc] at hj; subst hj; simpa [Addr.add] using hz.c0
    | 1, hj => simp [pc] at hj; subst hj; simpa [Addr.add] using hz.c1
  · intro u hu
    simp [pc] at hu
    rcases hu with rfl | rfl <;> rfl
  · intro v' w' h1 h2
    refine h v' w' ?_ h2
    unfold Pairs
    rw [List.length_append, List.flatMap_append]
    simpa using h1

theorem spanFits_walk (v : Value) (rs : List (Nat × Nat)) (low : Nat) (d0 d1 d2 : Int) (w : World) (hr : RdP w v rs) (hrl : rs.length ≤ 9223372036854775807) (hrb : ∀ i (h : i < rs.length), rs[i].1 < 18446744073709551616 ∧ rs[i].2 < 18446744073709551616)
    (hlb : low < 18446744073709551616) (a0 : 0 ≤ d0) (a1 : d0 < 256) (b0 : 0 ≤ d1) (b1 : d1 < 256) (c0 : 0 ≤ d2) (c1 : d2 < 256) :
    Calls Try.prog 10 #[v, .int .u64 low, .agg #[.int .u8 d0, .int .u8 d1, .int .u8 d2]] w (True' w) := by
  obtain ⟨s, hs, hs2⟩ : ∃ s : Nat, d0 % 64 = s ∧ s < 64 := ⟨(d0 % 64).toNat, by omega, by omega⟩
  obtain ⟨l, hl, hl2⟩ : ∃ l : Nat, d1 % 10 = l ∧ l < 10 := ⟨(d1 % 10).toNat, by omega, by omega⟩
  obtain ⟨b, hb, hb2⟩ : ∃ b : Nat, d2 % 64 = b ∧ b < 64 := ⟨(d2 % 64).toNat, by omega, by omega⟩
  have ts : d0.tmod 64 = s := by rw [Int.tmod_eq_emod_of_nonneg a0]; exact hs
  have tl : d1.tmod 10 = l := by rw [Int.tmod_eq_emod_of_nonneg b0]; exact hl
  have tb : d2.tmod 64 = b := by rw [Int.tmod_eq_emod_of_nonneg c0]; exact hb
  have us : IntKind.u8.wrap (s : Int) = s := IntWalk.u8_in _ (by omega)
  have ul : IntKind.u8.wrap (l : Int) = l := IntWalk.u8_in _ (by omega)
  have ub : IntKind.u8.wrap (b : Int) = b := IntWalk.u8_in _ (by omega)
  have js : IntKind.i64.wrap (s : Int) = s := IntWalk.i64_in _ (by omega)
  have jl : IntKind.i64.wrap (l : Int) = l := IntWalk.i64_in _ (by omega)
  have jb : IntKind.i64.wrap (b : Int) = b := IntWalk.i64_in _ (by omega)
  obtain ⟨w1, hw1⟩ : ∃ w1, w.alloc (.cells #[.int .u8 d0, .int .u8 d1, .int .u8 d2] 64) = w1 := ⟨_, rfl⟩
  have h01 : Hid (New w w1) := by show New _ _; rw [← hw1]; exact (Upd.refl _ _).alloc _
  have K0 : Hid (w1.cell? ⟨w.heap.size, 0, none⟩ = some (.int .u8 d0)) := by show _ = _; rw [← hw1]; simp
  have K1 : Hid (w1.cell? ⟨w.heap.size, 1, none⟩ = some (.int .u8 d1)) := by show _ = _; rw [← hw1]; simp
  have K2 : Hid (w1.cell? ⟨w.heap.size, 2, none⟩ = some (.int .u8 d2)) := by show _ = _; rw [← hw1]; simp
  have HW1 := hid hw1
  have HR := hid hr
  have HRB := hid hrb
  obtain ⟨a, cap, rfl, hcap, hnil, hcell⟩ := hr
  clear hw1 hcell hrb
  go_enter Try.func10, Try.ntmps10
  go_wp2_with fail
  rw [HW1.out]
  have hn : New w1 w1.drew := (Upd.refl _ _).drew
  refine wp_region_noPanic ?_
  refine wp_region_held_drew (S := (New w1)) (by kernel_rfl) (by first | exact hn | exact (Upd.refl _ _).drew | exact Upd.drew (by assumption)) (fun hn => ?_)
  refine wpAnyH_take (i := 0) (oi := { dst := some 13, op := Op.indexAddr 64 (Operand.tmp 5) (Operand.const (Value.int IntKind.i64 0)), type := 0, pos := "law.go:81", after := #[], guard := none }) (v := ?v4x1) rfl (by kernel_rfl) (by kernel_rfl) (by kernel_rfl) (fun _ _ _ h => h) (Or.inl ⟨by rfl, ?y4x1⟩) hn ?r4x1
  case y4x1 => (intro wS hS; (try go_simp); (try with_reducible rfl))
  try simp only [Act.put, List.setIfInBounds_toArray, List.set_cons_zero, List.set_cons_succ]
  refine wpAnyH_take (i := 1) (oi := { dst := some 14, op := Op.load 5 (Operand.tmp 13), type := 5, pos := "law.go:81", after := #[{ on := 0, ground := Ground.data }], guard := none }) (v := ?v4x2) rfl (by kernel_rfl) (by kernel_rfl) (by kernel_rfl) (fun _ _ _ h => h) (Or.inl ⟨by rfl, ?y4x2⟩) hn ?r4x2
  case y4x2 => (intro wS hS; have c := hS.cell K0.out (fun h => h); (try go_simp); (try with_reducible rfl))
  try simp only [Act.put, List.setIfInBounds_toArray, List.set_cons_zero, List.set_cons_succ]
  refine wpAnyH_take (i := 2) (oi := { dst := some 15, op := Op.binOp BinOp.rem 5 (Operand.tmp 14) (Operand.const (Value.int IntKind.u8 64)) 5, type := 5, pos := "law.go:81", after := #[{ on := 1, ground := Ground.data }], guard := none }) (v := ?v4x3) rfl (by kernel_rfl) (by kernel_rfl) (by kernel_rfl) (fun _ _ _ h => h) (Or.inl ⟨by rfl, ?y4x3⟩) hn ?r4x3
  case y4x3 => (intro wS hS; (try go_simp); (try with_reducible rfl))
  try simp only [Act.put, List.setIfInBounds_toArray, List.set_cons_zero, List.set_cons_succ]
  refine wpAnyH_take (i := 3) (oi := { dst := some 16, op := Op.convert 5 3 (Operand.tmp 15), type := 3, pos := "law.go:81", after := #[{ on := 2, ground := Ground.data }], guard := none }) (v := ?v4x4) rfl (by kernel_rfl) (by kernel_rfl) (by kernel_rfl) (fun _ _ _ h => h) (Or.inl ⟨by rfl, ?y4x4⟩) hn ?r4x4
  case y4x4 => (intro wS hS; (try go_simp); (try with_reducible rfl))
  try simp only [Act.put, List.setIfInBounds_toArray, List.set_cons_zero, List.set_cons_succ]
  refine wpAnyH_take (i := 4) (oi := { dst := some 17, op := Op.indexAddr 64 (Operand.tmp 5) (Operand.const (Value.int IntKind.i64 1)), type := 0, pos := "law.go:81", after := #[{ on := 12, ground := Ground.gcOnly Departure.lateStores }], guard := none }) (v := ?v4x5) rfl (by kernel_rfl) (by kernel_rfl) (by kernel_rfl) (fun _ _ _ h => h) (Or.inl ⟨by rfl, ?y4x5⟩) hn ?r4x5
  case y4x5 => (intro wS hS; (try go_simp); (try with_reducible rfl))
  try simp only [Act.put, List.setIfInBounds_toArray, List.set_cons_zero, List.set_cons_succ]
  refine wpAnyH_take (i := 5) (oi := { dst := some 18, op := Op.load 5 (Operand.tmp 17), type := 5, pos := "law.go:81", after := #[{ on := 4, ground := Ground.data }, { on := 12, ground := Ground.gcOnly Departure.lateStores }], guard := none }) (v := ?v4x6) rfl (by kernel_rfl) (by kernel_rfl) (by kernel_rfl) (fun _ _ _ h => h) (Or.inl ⟨by rfl, ?y4x6⟩) hn ?r4x6
  case y4x6 => (intro wS hS; have c := hS.cell K1.out (fun h => h); (try go_simp); (try with_reducible rfl))
  try simp only [Act.put, List.setIfInBounds_toArray, List.set_cons_zero, List.set_cons_succ]
  refine wpAnyH_take (i := 6) (oi := { dst := some 19, op := Op.binOp BinOp.rem 5 (Operand.tmp 18) (Operand.const (Value.int IntKind.u8 10)) 5, type := 5, pos := "law.go:81", after := #[{ on := 5, ground := Ground.data }, { on := 12, ground := Ground.gcOnly Departure.lateStores }], guard := none }) (v := ?v4x7) rfl (by kernel_rfl) (by kernel_rfl) (by kernel_rfl) (fun _ _ _ h => h) (Or.inl ⟨by rfl, ?y4x7⟩) hn ?r4x7
  case y4x7 => (intro wS hS; (try go_simp); (try with_reducible rfl))
  try simp only [Act.put, List.setIfInBounds_toArray, List.set_cons_zero, List.set_cons_succ]
  refine wpAnyH_take (i := 7) (oi := { dst := some 20, op := Op.convert 5 3 (Operand.tmp 19), type := 3, pos := "law.go:81", after := #[{ on := 6, ground := Ground.data }, { on := 12, ground := Ground.gcOnly Departure.lateStores }], guard := none }) (v := ?v4x8) rfl (by kernel_rfl) (by kernel_rfl) (by kernel_rfl) (fun _ _ _ h => h) (Or.inl ⟨by rfl, ?y4x8⟩) hn ?r4x8
  case y4x8 => (intro wS hS; (try go_simp); (try with_reducible rfl))
  try simp only [Act.put, List.setIfInBounds_toArray, List.set_cons_zero, List.set_cons_succ]
  refine wpAnyH_take (i := 8) (oi := { dst := some 21, op := Op.indexAddr 64 (Operand.tmp 5) (Operand.const (Value.int IntKind.i64 2)), type := 0, pos := "law.go:81", after := #[{ on := 13, ground := Ground.gcOnly Departure.lateStores }], guard := none }) (v := ?v4x9) rfl (by kernel_rfl) (by kernel_rfl) (by kernel_rfl) (fun _ _ _ h => h) (Or.inl ⟨by rfl, ?y4x9⟩) hn ?r4x9
  case y4x9 => (intro wS hS; (try go_simp); (try with_reducible rfl))
  try simp only [Act.put, List.setIfInBounds_toArray, List.set_cons_zero, List.set_cons_succ]
  refine wpAnyH_take (i := 9) (oi := { dst := some 22, op := Op.load 5 (Operand.tmp 21), type := 5, pos := "law.go:81", after := #[{ on := 8, ground := Ground.data }, { on := 13, ground := Ground.gcOnly Departure.lateStores }], guard := none }) (v := ?v4x10) rfl (by kernel_rfl) (by kernel_rfl) (by kernel_rfl) (fun _ _ _ h => h) (Or.inl ⟨by rfl, ?y4x10⟩) hn ?r4x10
  case y4x10 => (intro wS hS; have c := hS.cell K2.out (fun h => h); (try go_simp); (try with_reducible rfl))
  try simp only [Act.put, List.setIfInBounds_toArray, List.set_cons_zero, List.set_cons_succ]
  refine wpAnyH_take (i := 10) (oi := { dst := some 23, op := Op.binOp BinOp.rem 5 (Operand.tmp 22) (Operand.const (Value.int IntKind.u8 64)) 5, type := 5, pos := "law.go:81", after := #[{ on := 9, ground := Ground.data }, { on := 13, ground := Ground.gcOnly Departure.lateStores }], guard := none }) (v := ?v4x11) rfl (by kernel_rfl) (by kernel_rfl) (by kernel_rfl) (fun _ _ _ h => h) (Or.inl ⟨by rfl, ?y4x11⟩) hn ?r4x11
  case y4x11 => (intro wS hS; (try go_simp); (try with_reducible rfl))
  try simp only [Act.put, List.setIfInBounds_toArray, List.set_cons_zero, List.set_cons_succ]
  refine wpAnyH_take (i := 11) (oi := { dst := some 24, op := Op.convert 5 3 (Operand.tmp 23), type := 3, pos := "law.go:81", after := #[{ on := 10, ground := Ground.data }, { on := 13, ground := Ground.gcOnly Departure.lateStores }], guard := none }) (v := ?v4x12) rfl (by kernel_rfl) (by kernel_rfl) (by kernel_rfl) (fun _ _ _ h => h) (Or.inl ⟨by rfl, ?y4x12⟩) hn ?r4x12
  case y4x12 => (intro wS hS; (try go_simp); (try with_reducible rfl))
  try simp only [Act.put, List.setIfInBounds_toArray, List.set_cons_zero, List.set_cons_succ]
  refine wpAnyH_take (i := 12) (oi := { dst := some 7, op := Op.assign (Operand.tmp 16), type := 3, pos := "law.go:81", after := #[{ on := 3, ground := Ground.data }, { on := 0, ground := Ground.phase }, { on := 1, ground := Ground.phase }, { on := 2, ground := Ground.phase }, { on := 3, ground := Ground.phase }, { on := 4, ground := Ground.textOnly Departure.lateStores }, { on := 5, ground := Ground.textOnly Departure.lateStores }, { on := 6, ground := Ground.textOnly Departure.lateStores }, { on := 7, ground := Ground.textOnly Departure.lateStores }, { on := 8, ground := Ground.textOnly Departure.lateStores }, { on := 9, ground := Ground.textOnly Departure.lateStores }, { on := 10, ground := Ground.textOnly Departure.lateStores }, { on := 11, ground := Ground.textOnly Departure.lateStores }], guard := none }) (v := ?v4x13) rfl (by kernel_rfl) (by kernel_rfl) (by kernel_rfl) (fun _ _ _ h => h) (Or.inl ⟨by rfl, ?y4x13⟩) hn ?r4x13
  case y4x13 => (intro wS hS; (try go_simp); (try with_reducible rfl))
  try simp only [Act.put, List.setIfInBounds_toArray, List.set_cons_zero, List.set_cons_succ]
  refine wpAnyH_take (i := 13) (oi := { dst := some 8, op := Op.assign (Operand.tmp 20), type := 3, pos := "law.go:81", after := #[{ on := 7, ground := Ground.data }, { on := 12, ground := Ground.chain }, { on := 0, ground := Ground.phase }, { on := 1, ground := Ground.phase }, { on := 2, ground := Ground.phase }, { on := 3, ground := Ground.phase }, { on := 4, ground := Ground.phase }, { on := 5, ground := Ground.phase }, { on := 6, ground := Ground.phase }, { on := 7, ground := Ground.phase }, { on := 8, ground := Ground.textOnly Departure.lateStores }, { on := 9, ground := Ground.textOnly Departure.lateStores }, { on := 10, ground := Ground.textOnly Departure.lateStores }, { on := 11, ground := Ground.textOnly Departure.lateStores }, { on := 12, ground := Ground.phase }], guard := none }) (v := ?v4x14) rfl (by kernel_rfl) (by kernel_rfl) (by kernel_rfl) (fun _ _ _ h => h) (Or.inl ⟨by rfl, ?y4x14⟩) hn ?r4x14
  case y4x14 => (intro wS hS; (try go_simp); (try with_reducible rfl))
  try simp only [Act.put, List.setIfInBounds_toArray, List.set_cons_zero, List.set_cons_succ]
  refine wpAnyH_take (i := 14) (oi := { dst := some 9, op := Op.assign (Operand.tmp 24), type := 3, pos := "law.go:81", after := #[{ on := 11, ground := Ground.data }, { on := 13, ground := Ground.chain }, { on := 0, ground := Ground.phase }, { on := 1, ground := Ground.phase }, { on := 2, ground := Ground.phase }, { on := 3, ground := Ground.phase }, { on := 4, ground := Ground.phase }, { on := 5, ground := Ground.phase }, { on := 6, ground := Ground.phase }, { on := 7, ground := Ground.phase }, { on := 8, ground := Ground.phase }, { on := 9, ground := Ground.phase }, { on := 10, ground := Ground.phase }, { on := 11, ground := Ground.phase }, { on := 12, ground := Ground.phase }, { on := 13, ground := Ground.phase }], guard := none }) (v := ?v4x15) rfl (by kernel_rfl) (by kernel_rfl) (by kernel_rfl) (fun _ _ _ h => h) (Or.inl ⟨by rfl, ?y4x15⟩) hn ?r4x15
  case y4x15 => (intro wS hS; (try go_simp); (try with_reducible rfl))
  try simp only [Act.put, List.setIfInBounds_toArray, List.set_cons_zero, List.set_cons_succ]
  refine wpAnyH_done (by kernel_rfl) ?_ _
  refine NoPanic.normal ?_
  generalize w1.drew = w2 at *
  have HN2 := hid (New.trans h01.out hn)
  have HS := hid hs2
  have HL2 := hid hl2
  have HB2 := hid hb2
  clear ts tl tb us ul ub js jl jb hs hl hb hs2 hl2 hb2 K0 K1 K2 HW1 a0 a1 b0 b1 c0 c1 hn h01
  by_cases q1 : 20 < rs.length
  · go_wp2_with fail
    go_ret
    exact ⟨rfl, HN2.out⟩
  · obtain ⟨S, hS⟩ : ∃ S, 2 ^ s = S := ⟨_, rfl⟩
    have S0 : 0 < S := by rw [← hS]; exact Nat.pow_pos (by decide)
    have i1 : (2 : Int) ^ s = S := by rw [← hS]; simp
    have HSE := hid hS
    have hs2 := HS.out
    clear hS
    by_cases q2 : low < S
    · have e0 : (low : Int) / S = 0 := Int.ediv_eq_zero_of_lt (by omega) (by omega)
      have HLOW := hid q2
      have HR2 := hid (HR.out.new HN2.out)
      have HLB := hid hlb
      clear q2 HR hlb
      go_wp2_with fail
      clear e0 i1
      go_loopg [10, 11, 12] rs.length (fun k p v c wr => ∃ i x : Nat, k = rs.length - i ∧ p = .int .u64 x ∧ c = .int .i64 i ∧ i ≤ rs.length ∧ x ≤ 5000 * i ∧ Pairs wr v (rs.take i) ∧ New w2 wr ∧ Fresh w2 v ∧ ∀ j (_ : j < i) (hj : j < rs.length), rs[j].2 < rs[j].1 ∨ rs[j].2 < 18446744073709551615)
      case atStart => exact ⟨0, 0, by simp, rfl, rfl, Nat.zero_le _, by omega, Pairs.nil _, Upd.refl _ _, (fun k h => by cases h), fun j h => absurd h (Nat.not_lt_zero _)⟩
      case round =>
        obtain ⟨i, x, rfl, rfl, rfl, hi, hx, hp, hw, hf, hbefore⟩ := hrel
        obtain ⟨wo, rfl⟩ : ∃ wo : World, wo = wr := ⟨_, rfl⟩
        have HBF := hid hbefore
        have HP := hid hp
        have HF := hid hf
        have HWO := hid hw
        clear hbefore hp hf hw
        by_cases hlt : i < rs.length
        · obtain ⟨_, _, e, _, _, hcell⟩ := HR2.out
          obtain ⟨bl, of, rfl, hcl⟩ := hcell (by intro h; subst h; simp at hlt)
          cases e
          have hc0 := hid (hcl i hlt).1
          have hc1 := hid (hcl i hlt).2
          have hbd := HRB.out i hlt
          have HTK : Hid (rs.take (i + 1) = rs.take i ++ [(rs[i].1, rs[i].2)]) := by show _ = _; rw [List.take_succ_eq_append_getElem hlt]
          have HX := hid (fun (h : rs[i].2 < rs[i].1 ∨ rs[i].2 < 18446744073709551615) => (show ∀ j (_ : j < i + 1) (hj : j < rs.length), rs[j].2 < rs[j].1 ∨ rs[j].2 < 18446744073709551615 from fun j h1 h2 => by
            rcases Nat.lt_or_ge j i with h3 | h3
            · exact HBF.out j h3 h2
            · have : j = i := by omega
              subst this
              exact h))
          clear hcell hcl
          generalize hlo : rs[i].1 = lo at *
          generalize hhi : rs[i].2 = hi' at *
          clear hlo hhi
          have hn := HWO.out
          go_wp2_with fail
          by_cases hge : lo ≤ hi'
          · skip
            refine wp_region_noPanic ?_
            refine wp_region_held_drew (S := (New w2)) (by kernel_rfl) (by first | exact hn | exact (Upd.refl _ _).drew | exact Upd.drew (by assumption)) (fun hn => ?_)
            refine wpAnyH_take (i := 0) (oi := { dst := some 40, op := Op.move (Operand.tmp 0), type := 63, pos := "law.go:88", after := #[], guard := none }) (v := ?v5x1) rfl (by kernel_rfl) (by kernel_rfl) (by kernel_rfl) (fun _ _ _ h => h) (Or.inl ⟨by rfl, ?y5x1⟩) hn ?r5x1
            case y5x1 => (intro wS hS; (try go_simp); (try with_reducible rfl))
            try simp only [Act.put, List.setIfInBounds_toArray, List.set_cons_zero, List.set_cons_succ]
            refine wpAnyH_take (i := 1) (oi := { dst := some 41, op := Op.move (Operand.tmp 12), type := 3, pos := "law.go:88", after := #[], guard := none }) (v := ?v5x2) rfl (by kernel_rfl) (by kernel_rfl) (by kernel_rfl) (fun _ _ _ h => h) (Or.inl ⟨by rfl, ?y5x2⟩) hn ?r5x2
            case y5x2 => (intro wS hS; (try go_simp); (try with_reducible rfl))
            try simp only [Act.put, List.setIfInBounds_toArray, List.set_cons_zero, List.set_cons_succ]
            refine wpAnyH_take (i := 2) (oi := { dst := some 42, op := Op.indexAddr 63 (Operand.tmp 40) (Operand.tmp 41), type := 0, pos := "law.go:88", after := #[{ on := 0, ground := Ground.data }, { on := 1, ground := Ground.data }], guard := none }) (v := ?v5x3) rfl (by kernel_rfl) (by kernel_rfl) (by kernel_rfl) (fun _ _ _ h => h) (Or.inl ⟨by rfl, ?y5x3⟩) hn ?r5x3
            case y5x3 => (intro wS hS; (try go_simp); (try with_reducible rfl))
            try simp only [Act.put, List.setIfInBounds_toArray, List.set_cons_zero, List.set_cons_succ]
            refine wpAnyH_take (i := 3) (oi := { dst := some 43, op := Op.fieldAddr 66 (Operand.tmp 42) 1, type := 0, pos := "law.go:88", after := #[{ on := 2, ground := Ground.data }], guard := none }) (v := ?v5x4) rfl (by kernel_rfl) (by kernel_rfl) (by kernel_rfl) (fun _ _ _ h => h) (Or.inl ⟨by rfl, ?y5x4⟩) hn ?r5x4
            case y5x4 => (intro wS hS; (try go_simp); (try with_reducible rfl))
            try simp only [Act.put, List.setIfInBounds_toArray, List.set_cons_zero, List.set_cons_succ]
            refine wpAnyH_take (i := 4) (oi := { dst := some 44, op := Op.load 23 (Operand.tmp 43), type := 23, pos := "law.go:88", after := #[{ on := 3, ground := Ground.data }], guard := none }) (v := ?v5x5) rfl (by kernel_rfl) (by kernel_rfl) (by kernel_rfl) (fun _ _ _ h => h) (Or.inl ⟨by rfl, ?y5x5⟩) hn ?r5x5
            case y5x5 => (intro wS hS; have c := hS.cell hc1.out (fun h => h); (try go_simp); (try with_reducible rfl))
            try simp only [Act.put, List.setIfInBounds_toArray, List.set_cons_zero, List.set_cons_succ]
            refine wpAnyH_take (i := 5) (oi := { dst := some 45, op := Op.move (Operand.tmp 0), type := 63, pos := "law.go:88", after := #[], guard := none }) (v := ?v5x6) rfl (by kernel_rfl) (by kernel_rfl) (by kernel_rfl) (fun _ _ _ h => h) (Or.inl ⟨by rfl, ?y5x6⟩) hn ?r5x6
            case y5x6 => (intro wS hS; (try go_simp); (try with_reducible rfl))
            try simp only [Act.put, List.setIfInBounds_toArray, List.set_cons_zero, List.set_cons_succ]
            refine wpAnyH_take (i := 6) (oi := { dst := some 46, op := Op.move (Operand.tmp 12), type := 3, pos := "law.go:88", after := #[], guard := none }) (v := ?v5x7) rfl (by kernel_rfl) (by kernel_rfl) (by kernel_rfl) (fun _ _ _ h => h) (Or.inl ⟨by rfl, ?y5x7⟩) hn ?r5x7
            case y5x7 => (intro wS hS; (try go_simp); (try with_reducible rfl))
            try simp only [Act.put, List.setIfInBounds_toArray, List.set_cons_zero, List.set_cons_succ]
            refine wpAnyH_take (i := 7) (oi := { dst := some 47, op := Op.indexAddr 63 (Operand.tmp 45) (Operand.tmp 46), type := 0, pos := "law.go:88", after := #[{ on := 5, ground := Ground.data }, { on := 6, ground := Ground.data }], guard := none }) (v := ?v5x8) rfl (by kernel_rfl) (by kernel_rfl) (by kernel_rfl) (fun _ _ _ h => h) (Or.inl ⟨by rfl, ?y5x8⟩) hn ?r5x8
            case y5x8 => (intro wS hS; (try go_simp); (try with_reducible rfl))
            try simp only [Act.put, List.setIfInBounds_toArray, List.set_cons_zero, List.set_cons_succ]
            refine wpAnyH_take (i := 8) (oi := { dst := some 48, op := Op.fieldAddr 66 (Operand.tmp 47) 0, type := 0, pos := "law.go:88", after := #[{ on := 7, ground := Ground.data }], guard := none }) (v := ?v5x9) rfl (by kernel_rfl) (by kernel_rfl) (by kernel_rfl) (fun _ _ _ h => h) (Or.inl ⟨by rfl, ?y5x9⟩) hn ?r5x9
            case y5x9 => (intro wS hS; (try go_simp); (try with_reducible rfl))
            try simp only [Act.put, List.setIfInBounds_toArray, List.set_cons_zero, List.set_cons_succ]
            refine wpAnyH_take (i := 9) (oi := { dst := some 49, op := Op.load 23 (Operand.tmp 48), type := 23, pos := "law.go:88", after := #[{ on := 8, ground := Ground.data }], guard := none }) (v := ?v5x10) rfl (by kernel_rfl) (by kernel_rfl) (by kernel_rfl) (fun _ _ _ h => h) (Or.inl ⟨by rfl, ?y5x10⟩) hn ?r5x10
            case y5x10 => (intro wS hS; have c := hS.cell hc0.out (fun h => h); (try go_simp); (try with_reducible rfl))
            try simp only [Act.put, List.setIfInBounds_toArray, List.set_cons_zero, List.set_cons_succ]
            refine wpAnyH_take (i := 10) (oi := { dst := some 50, op := Op.binOp BinOp.geq 23 (Operand.tmp 44) (Operand.tmp 49) 23, type := 4, pos := "law.go:88", after := #[{ on := 4, ground := Ground.data }, { on := 9, ground := Ground.data }], guard := none }) (v := ?v5x11) rfl (by kernel_rfl) (by kernel_rfl) (by kernel_rfl) (fun _ _ _ h => h) (Or.inl ⟨by rfl, ?y5x11⟩) hn ?r5x11
            case y5x11 => (intro wS hS; (try go_simp); (try with_reducible rfl))
            try simp only [Act.put, List.setIfInBounds_toArray, List.set_cons_zero, List.set_cons_succ]
            refine wpAnyH_done (by kernel_rfl) ?_ _
            refine NoPanic.normal ?_
            go_wp2_with fail
            obtain ⟨df, hdf⟩ : ∃ df : Nat, hi' = lo + df := ⟨hi' - lo, by omega⟩
            have ew : IntKind.u64.wrap ((hi' : Int) - lo) = df := by rw [IntWalk.u64_in _ (by omega)]; omega
            by_cases c1 : 5000 < df
            · have c1' : (5000 : Int) < df := by omega
              clear hdf
              refine wp_region_noPanic ?_
              refine wp_region_held_drew (S := (New w2)) (by kernel_rfl) (by first | exact hn | exact (Upd.refl _ _).drew | exact Upd.drew (by assumption)) (fun hn => ?_)
              refine wpAnyH_take (i := 0) (oi := { dst := some 51, op := Op.move (Operand.tmp 0), type := 63, pos := "law.go:89", after := #[], guard := none }) (v := ?v6x1) rfl (by kernel_rfl) (by kernel_rfl) (by kernel_rfl) (fun _ _ _ h => h) (Or.inl ⟨by rfl, ?y6x1⟩) hn ?r6x1
              case y6x1 => (intro wS hS; (try go_simp); (try with_reducible rfl))
              try simp only [Act.put, List.setIfInBounds_toArray, List.set_cons_zero, List.set_cons_succ]
              refine wpAnyH_take (i := 1) (oi := { dst := some 52, op := Op.move (Operand.tmp 12), type := 3, pos := "law.go:89", after := #[], guard := none }) (v := ?v6x2) rfl (by kernel_rfl) (by kernel_rfl) (by kernel_rfl) (fun _ _ _ h => h) (Or.inl ⟨by rfl, ?y6x2⟩) hn ?r6x2
              case y6x2 => (intro wS hS; (try go_simp); (try with_reducible rfl))
              try simp only [Act.put, List.setIfInBounds_toArray, List.set_cons_zero, List.set_cons_succ]
              refine wpAnyH_take (i := 2) (oi := { dst := some 53, op := Op.indexAddr 63 (Operand.tmp 51) (Operand.tmp 52), type := 0, pos := "law.go:89", after := #[{ on := 0, ground := Ground.data }, { on := 1, ground := Ground.data }], guard := none }) (v := ?v6x3) rfl (by kernel_rfl) (by kernel_rfl) (by kernel_rfl) (fun _ _ _ h => h) (Or.inl ⟨by rfl, ?y6x3⟩) hn ?r6x3
              case y6x3 => (intro wS hS; (try go_simp); (try with_reducible rfl))
              try simp only [Act.put, List.setIfInBounds_toArray, List.set_cons_zero, List.set_cons_succ]
              refine wpAnyH_take (i := 3) (oi := { dst := some 54, op := Op.fieldAddr 66 (Operand.tmp 53) 1, type := 0, pos := "law.go:89", after := #[{ on := 2, ground := Ground.data }], guard := none }) (v := ?v6x4) rfl (by kernel_rfl) (by kernel_rfl) (by kernel_rfl) (fun _ _ _ h => h) (Or.inl ⟨by rfl, ?y6x4⟩) hn ?r6x4
              case y6x4 => (intro wS hS; (try go_simp); (try with_reducible rfl))
              try simp only [Act.put, List.setIfInBounds_toArray, List.set_cons_zero, List.set_cons_succ]
              refine wpAnyH_take (i := 4) (oi := { dst := some 55, op := Op.load 23 (Operand.tmp 54), type := 23, pos := "law.go:89", after := #[{ on := 3, ground := Ground.data }], guard := none }) (v := ?v6x5) rfl (by kernel_rfl) (by kernel_rfl) (by kernel_rfl) (fun _ _ _ h => h) (Or.inl ⟨by rfl, ?y6x5⟩) hn ?r6x5
              case y6x5 => (intro wS hS; have c := hS.cell hc1.out (fun h => h); (try go_simp); (try with_reducible rfl))
              try simp only [Act.put, List.setIfInBounds_toArray, List.set_cons_zero, List.set_cons_succ]
              refine wpAnyH_take (i := 5) (oi := { dst := some 56, op := Op.move (Operand.tmp 0), type := 63, pos := "law.go:89", after := #[], guard := none }) (v := ?v6x6) rfl (by kernel_rfl) (by kernel_rfl) (by kernel_rfl) (fun _ _ _ h => h) (Or.inl ⟨by rfl, ?y6x6⟩) hn ?r6x6
              case y6x6 => (intro wS hS; (try go_simp); (try with_reducible rfl))
              try simp only [Act.put, List.setIfInBounds_toArray, List.set_cons_zero, List.set_cons_succ]
              refine wpAnyH_take (i := 6) (oi := { dst := some 57, op := Op.move (Operand.tmp 12), type := 3, pos := "law.go:89", after := #[], guard := none }) (v := ?v6x7) rfl (by kernel_rfl) (by kernel_rfl) (by kernel_rfl) (fun _ _ _ h => h) (Or.inl ⟨by rfl, ?y6x7⟩) hn ?r6x7
              case y6x7 => (intro wS hS; (try go_simp); (try with_reducible rfl))
              try simp only [Act.put, List.setIfInBounds_toArray, List.set_cons_zero, List.set_cons_succ]
              refine wpAnyH_take (i := 7) (oi := { dst := some 58, op := Op.indexAddr 63 (Operand.tmp 56) (Operand.tmp 57), type := 0, pos := "law.go:89", after := #[{ on := 5, ground := Ground.data }, { on := 6, ground := Ground.data }], guard := none }) (v := ?v6x8) rfl (by kernel_rfl) (by kernel_rfl) (by kernel_rfl) (fun _ _ _ h => h) (Or.inl ⟨by rfl, ?y6x8⟩) hn ?r6x8
              case y6x8 => (intro wS hS; (try go_simp); (try with_reducible rfl))
              try simp only [Act.put, List.setIfInBounds_toArray, List.set_cons_zero, List.set_cons_succ]
              refine wpAnyH_take (i := 8) (oi := { dst := some 59, op := Op.fieldAddr 66 (Operand.tmp 58) 0, type := 0, pos := "law.go:89", after := #[{ on := 7, ground := Ground.data }], guard := none }) (v := ?v6x9) rfl (by kernel_rfl) (by kernel_rfl) (by kernel_rfl) (fun _ _ _ h => h) (Or.inl ⟨by rfl, ?y6x9⟩) hn ?r6x9
              case y6x9 => (intro wS hS; (try go_simp); (try with_reducible rfl))
              try simp only [Act.put, List.setIfInBounds_toArray, List.set_cons_zero, List.set_cons_succ]
              refine wpAnyH_take (i := 9) (oi := { dst := some 60, op := Op.load 23 (Operand.tmp 59), type := 23, pos := "law.go:89", after := #[{ on := 8, ground := Ground.data }], guard := none }) (v := ?v6x10) rfl (by kernel_rfl) (by kernel_rfl) (by kernel_rfl) (fun _ _ _ h => h) (Or.inl ⟨by rfl, ?y6x10⟩) hn ?r6x10
              case y6x10 => (intro wS hS; have c := hS.cell hc0.out (fun h => h); (try go_simp); (try with_reducible rfl))
              try simp only [Act.put, List.setIfInBounds_toArray, List.set_cons_zero, List.set_cons_succ]
              refine wpAnyH_take (i := 10) (oi := { dst := some 61, op := Op.binOp BinOp.sub 23 (Operand.tmp 55) (Operand.tmp 60) 23, type := 23, pos := "law.go:89", after := #[{ on := 4, ground := Ground.data }, { on := 9, ground := Ground.data }], guard := none }) (v := ?v6x11) rfl (by kernel_rfl) (by kernel_rfl) (by kernel_rfl) (fun _ _ _ h => h) (Or.inl ⟨by rfl, ?y6x11⟩) hn ?r6x11
              case y6x11 => (intro wS hS; (try go_simp); (try with_reducible rfl))
              try simp only [Act.put, List.setIfInBounds_toArray, List.set_cons_zero, List.set_cons_succ]
              refine wpAnyH_take (i := 11) (oi := { dst := some 62, op := Op.binOp BinOp.gtr 23 (Operand.tmp 61) (Operand.const (Value.int IntKind.u64 5000)) 23, type := 4, pos := "law.go:89", after := #[{ on := 10, ground := Ground.data }], guard := none }) (v := ?v6x12) rfl (by kernel_rfl) (by kernel_rfl) (by kernel_rfl) (fun _ _ _ h => h) (Or.inl ⟨by rfl, ?y6x12⟩) hn ?r6x12
              case y6x12 => (intro wS hS; (try go_simp); (try with_reducible rfl))
              try simp only [Act.put, List.setIfInBounds_toArray, List.set_cons_zero, List.set_cons_succ]
              refine wpAnyH_take (i := 12) (oi := { dst := some 63, op := Op.move (Operand.tmp 62), type := 4, pos := "law.go:89", after := #[{ on := 11, ground := Ground.data }], guard := none }) (v := ?v6x13) rfl (by kernel_rfl) (by kernel_rfl) (by kernel_rfl) (fun _ _ _ h => h) (Or.inl ⟨by rfl, ?y6x13⟩) hn ?r6x13
              case y6x13 => (intro wS hS; (try go_simp); (try with_reducible rfl))
              try simp only [Act.put, List.setIfInBounds_toArray, List.set_cons_zero, List.set_cons_succ]
              refine wpAnyH_take (i := 13) (oi := { dst := some 64, op := Op.move (Operand.tmp 0), type := 63, pos := "law.go:89", after := #[{ on := 12, ground := Ground.guard }], guard := some (12, false) }) (v := undef) rfl (by kernel_rfl) (by kernel_rfl) (by kernel_rfl) (fun _ _ _ h => h) (Or.inr ⟨by rfl, rfl⟩) hn ?_
              try simp only [Act.put, List.setIfInBounds_toArray, List.set_cons_zero, List.set_cons_succ]
              refine wpAnyH_take (i := 14) (oi := { dst := some 65, op := Op.move (Operand.tmp 12), type := 3, pos := "law.go:89", after := #[{ on := 12, ground := Ground.guard }], guard := some (12, false) }) (v := undef) rfl (by kernel_rfl) (by kernel_rfl) (by kernel_rfl) (fun _ _ _ h => h) (Or.inr ⟨by rfl, rfl⟩) hn ?_
              try simp only [Act.put, List.setIfInBounds_toArray, List.set_cons_zero, List.set_cons_succ]
              refine wpAnyH_take (i := 15) (oi := { dst := some 66, op := Op.indexAddr 63 (Operand.tmp 64) (Operand.tmp 65), type := 0, pos := "law.go:89", after := #[{ on := 13, ground := Ground.data }, { on := 14, ground := Ground.data }, { on := 12, ground := Ground.guard }], guard := some (12, false) }) (v := undef) rfl (by kernel_rfl) (by kernel_rfl) (by kernel_rfl) (fun _ _ _ h => h) (Or.inr ⟨by rfl, rfl⟩) hn ?_
              try simp only [Act.put, List.setIfInBounds_toArray, List.set_cons_zero, List.set_cons_succ]
              refine wpAnyH_take (i := 16) (oi := { dst := some 67, op := Op.fieldAddr 66 (Operand.tmp 66) 1, type := 0, pos := "law.go:89", after := #[{ on := 15, ground := Ground.data }, { on := 12, ground := Ground.guard }], guard := some (12, false) }) (v := undef) rfl (by kernel_rfl) (by kernel_rfl) (by kernel_rfl) (fun _ _ _ h => h) (Or.inr ⟨by rfl, rfl⟩) hn ?_
              try simp only [Act.put, List.setIfInBounds_toArray, List.set_cons_zero, List.set_cons_succ]
              refine wpAnyH_take (i := 17) (oi := { dst := some 68, op := Op.load 23 (Operand.tmp 67), type := 23, pos := "law.go:89", after := #[{ on := 16, ground := Ground.data }, { on := 12, ground := Ground.guard }], guard := some (12, false) }) (v := undef) rfl (by kernel_rfl) (by kernel_rfl) (by kernel_rfl) (fun _ _ _ h => h) (Or.inr ⟨by rfl, rfl⟩) hn ?_
              try simp only [Act.put, List.setIfInBounds_toArray, List.set_cons_zero, List.set_cons_succ]
              refine wpAnyH_take (i := 18) (oi := { dst := some 69, op := Op.binOp BinOp.eql 23 (Operand.tmp 68) (Operand.const (Value.int IntKind.u64 18446744073709551615)) 23, type := 4, pos := "law.go:89", after := #[{ on := 17, ground := Ground.data }, { on := 12, ground := Ground.guard }], guard := some (12, false) }) (v := undef) rfl (by kernel_rfl) (by kernel_rfl) (by kernel_rfl) (fun _ _ _ h => h) (Or.inr ⟨by rfl, rfl⟩) hn ?_
              try simp only [Act.put, List.setIfInBounds_toArray, List.set_cons_zero, List.set_cons_succ]
              refine wpAnyH_take (i := 19) (oi := { dst := some 70, op := Op.pick (Operand.tmp 63) (Operand.const (Value.bool true)) (Operand.tmp 69), type := 4, pos := "law.go:89", after := #[{ on := 12, ground := Ground.data }, { on := 18, ground := Ground.data }], guard := none }) (v := ?v6x20) rfl (by kernel_rfl) (by kernel_rfl) (by kernel_rfl) (fun _ _ _ h => h) (Or.inl ⟨by rfl, ?y6x20⟩) hn ?r6x20
              case y6x20 => (intro wS hS; (try go_simp); (try with_reducible rfl))
              try simp only [Act.put, List.setIfInBounds_toArray, List.set_cons_zero, List.set_cons_succ]
              refine wpAnyH_done (by kernel_rfl) ?_ _
              refine NoPanic.normal ?_
              go_wp2_with fail
              go_ret
              exact ⟨rfl, New.trans HN2.out hn⟩
            · have c1' : decide ((5000 : Int) < df) = false := decide_eq_false (by omega)
              by_cases c2 : hi' = 18446744073709551615
              · have e2 : ((hi' : Int) == 18446744073709551615) = true := beq_iff_eq.mpr (by omega)
                clear hdf c2
                refine wp_region_noPanic ?_
                refine wp_region_held_drew (S := (New w2)) (by kernel_rfl) (by first | exact hn | exact (Upd.refl _ _).drew | exact Upd.drew (by assumption)) (fun hn => ?_)
                refine wpAnyH_take (i := 0) (oi := { dst := some 51, op := Op.move (Operand.tmp 0), type := 63, pos := "law.go:89", after := #[], guard := none }) (v := ?v7x1) rfl (by kernel_rfl) (by kernel_rfl) (by kernel_rfl) (fun _ _ _ h => h) (Or.inl ⟨by rfl, ?y7x1⟩) hn ?r7x1
                case y7x1 => (intro wS hS; (try go_simp); (try with_reducible rfl))
                try simp only [Act.put, List.setIfInBounds_toArray, List.set_cons_zero, List.set_cons_succ]
                refine wpAnyH_take (i := 1) (oi := { dst := some 52, op := Op.move (Operand.tmp 12), type := 3, pos := "law.go:89", after := #[], guard := none }) (v := ?v7x2) rfl (by kernel_rfl) (by kernel_rfl) (by kernel_rfl) (fun _ _ _ h => h) (Or.inl ⟨by rfl, ?y7x2⟩) hn ?r7x2
                case y7x2 => (intro wS hS; (try go_simp); (try with_reducible rfl))
                try simp only [Act.put, List.setIfInBounds_toArray, List.set_cons_zero, List.set_cons_succ]
                refine wpAnyH_take (i := 2) (oi := { dst := some 53, op := Op.indexAddr 63 (Operand.tmp 51) (Operand.tmp 52), type := 0, pos := "law.go:89", after := #[{ on := 0, ground := Ground.data }, { on := 1, ground := Ground.data }], guard := none }) (v := ?v7x3) rfl (by kernel_rfl) (by kernel_rfl) (by kernel_rfl) (fun _ _ _ h => h) (Or.inl ⟨by rfl, ?y7x3⟩) hn ?r7x3
                case y7x3 => (intro wS hS; (try go_simp); (try with_reducible rfl))
                try simp only [Act.put, List.setIfInBounds_toArray, List.set_cons_zero, List.set_cons_succ]
                refine wpAnyH_take (i := 3) (oi := { dst := some 54, op := Op.fieldAddr 66 (Operand.tmp 53) 1, type := 0, pos := "law.go:89", after := #[{ on := 2, ground := Ground.data }], guard := none }) (v := ?v7x4) rfl (by kernel_rfl) (by kernel_rfl) (by kernel_rfl) (fun _ _ _ h => h) (Or.inl ⟨by rfl, ?y7x4⟩) hn ?r7x4
                case y7x4 => (intro wS hS; (try go_simp); (try with_reducible rfl))
                try simp only [Act.put, List.setIfInBounds_toArray, List.set_cons_zero, List.set_cons_succ]
                refine wpAnyH_take (i := 4) (oi := { dst := some 55, op := Op.load 23 (Operand.tmp 54), type := 23, pos := "law.go:89", after := #[{ on := 3, ground := Ground.data }], guard := none }) (v := ?v7x5) rfl (by kernel_rfl) (by kernel_rfl) (by kernel_rfl) (fun _ _ _ h => h) (Or.inl ⟨by rfl, ?y7x5⟩) hn ?r7x5
                case y7x5 => (intro wS hS; have c := hS.cell hc1.out (fun h => h); (try go_simp); (try with_reducible rfl))
                try simp only [Act.put, List.setIfInBounds_toArray, List.set_cons_zero, List.set_cons_succ]
                refine wpAnyH_take (i := 5) (oi := { dst := some 56, op := Op.move (Operand.tmp 0), type := 63, pos := "law.go:89", after := #[], guard := none }) (v := ?v7x6) rfl (by kernel_rfl) (by kernel_rfl) (by kernel_rfl) (fun _ _ _ h => h) (Or.inl ⟨by rfl, ?y7x6⟩) hn ?r7x6
                case y7x6 => (intro wS hS; (try go_simp); (try with_reducible rfl))
                try simp only [Act.put, List.setIfInBounds_toArray, List.set_cons_zero, List.set_cons_succ]
                refine wpAnyH_take (i := 6) (oi := { dst := some 57, op := Op.move (Operand.tmp 12), type := 3, pos := "law.go:89", after := #[], guard := none }) (v := ?v7x7) rfl (by kernel_rfl) (by kernel_rfl) (by kernel_rfl) (fun _ _ _ h => h) (Or.inl ⟨by rfl, ?y7x7⟩) hn ?r7x7
                case y7x7 => (intro wS hS; (try go_simp); (try with_reducible rfl))
                try simp only [Act.put, List.setIfInBounds_toArray, List.set_cons_zero, List.set_cons_succ]
                refine wpAnyH_take (i := 7) (oi := { dst := some 58, op := Op.indexAddr 63 (Operand.tmp 56) (Operand.tmp 57), type := 0, pos := "law.go:89", after := #[{ on := 5, ground := Ground.data }, { on := 6, ground := Ground.data }], guard := none }) (v := ?v7x8) rfl (by kernel_rfl) (by kernel_rfl) (by kernel_rfl) (fun _ _ _ h => h) (Or.inl ⟨by rfl, ?y7x8⟩) hn ?r7x8
                case y7x8 => (intro wS hS; (try go_simp); (try with_reducible rfl))
                try simp only [Act.put, List.setIfInBounds_toArray, List.set_cons_zero, List.set_cons_succ]
                refine wpAnyH_take (i := 8) (oi := { dst := some 59, op := Op.fieldAddr 66 (Operand.tmp 58) 0, type := 0, pos := "law.go:89", after := #[{ on := 7, ground := Ground.data }], guard := none }) (v := ?v7x9) rfl (by kernel_rfl) (by kernel_rfl) (by kernel_rfl) (fun _ _ _ h => h) (Or.inl ⟨by rfl, ?y7x9⟩) hn ?r7x9
                case y7x9 => (intro wS hS; (try go_simp); (try with_reducible rfl))
                try simp only [Act.put, List.setIfInBounds_toArray, List.set_cons_zero, List.set_cons_succ]
                refine wpAnyH_take (i := 9) (oi := { dst := some 60, op := Op.load 23 (Operand.tmp 59), type := 23, pos := "law.go:89", after := #[{ on := 8, ground := Ground.data }], guard := none }) (v := ?v7x10) rfl (by kernel_rfl) (by kernel_rfl) (by kernel_rfl) (fun _ _ _ h => h) (Or.inl ⟨by rfl, ?y7x10⟩) hn ?r7x10
                case y7x10 => (intro wS hS; have c := hS.cell hc0.out (fun h => h); (try go_simp); (try with_reducible rfl))
                try simp only [Act.put, List.setIfInBounds_toArray, List.set_cons_zero, List.set_cons_succ]
                refine wpAnyH_take (i := 10) (oi := { dst := some 61, op := Op.binOp BinOp.sub 23 (Operand.tmp 55) (Operand.tmp 60) 23, type := 23, pos := "law.go:89", after := #[{ on := 4, ground := Ground.data }, { on := 9, ground := Ground.data }], guard := none }) (v := ?v7x11) rfl (by kernel_rfl) (by kernel_rfl) (by kernel_rfl) (fun _ _ _ h => h) (Or.inl ⟨by rfl, ?y7x11⟩) hn ?r7x11
                case y7x11 => (intro wS hS; (try go_simp); (try with_reducible rfl))
                try simp only [Act.put, List.setIfInBounds_toArray, List.set_cons_zero, List.set_cons_succ]
                refine wpAnyH_take (i := 11) (oi := { dst := some 62, op := Op.binOp BinOp.gtr 23 (Operand.tmp 61) (Operand.const (Value.int IntKind.u64 5000)) 23, type := 4, pos := "law.go:89", after := #[{ on := 10, ground := Ground.data }], guard := none }) (v := ?v7x12) rfl (by kernel_rfl) (by kernel_rfl) (by kernel_rfl) (fun _ _ _ h => h) (Or.inl ⟨by rfl, ?y7x12⟩) hn ?r7x12
                case y7x12 => (intro wS hS; (try go_simp); (try with_reducible rfl))
                try simp only [Act.put, List.setIfInBounds_toArray, List.set_cons_zero, List.set_cons_succ]
                refine wpAnyH_take (i := 12) (oi := { dst := some 63, op := Op.move (Operand.tmp 62), type := 4, pos := "law.go:89", after := #[{ on := 11, ground := Ground.data }], guard := none }) (v := ?v7x13) rfl (by kernel_rfl) (by kernel_rfl) (by kernel_rfl) (fun _ _ _ h => h) (Or.inl ⟨by rfl, ?y7x13⟩) hn ?r7x13
                case y7x13 => (intro wS hS; (try go_simp); (try with_reducible rfl))
                try simp only [Act.put, List.setIfInBounds_toArray, List.set_cons_zero, List.set_cons_succ]
                refine wpAnyH_take (i := 13) (oi := { dst := some 64, op := Op.move (Operand.tmp 0), type := 63, pos := "law.go:89", after := #[{ on := 12, ground := Ground.guard }], guard := some (12, false) }) (v := ?v7x14) rfl (by kernel_rfl) (by kernel_rfl) (by kernel_rfl) (fun _ _ _ h => h) (Or.inl ⟨by rfl, ?y7x14⟩) hn ?r7x14
                case y7x14 => (intro wS hS; (try go_simp); (try with_reducible rfl))
                try simp only [Act.put, List.setIfInBounds_toArray, List.set_cons_zero, List.set_cons_succ]
                refine wpAnyH_take (i := 14) (oi := { dst := some 65, op := Op.move (Operand.tmp 12), type := 3, pos := "law.go:89", after := #[{ on := 12, ground := Ground.guard }], guard := some (12, false) }) (v := ?v7x15) rfl (by kernel_rfl) (by kernel_rfl) (by kernel_rfl) (fun _ _ _ h => h) (Or.inl ⟨by rfl, ?y7x15⟩) hn ?r7x15
                case y7x15 => (intro wS hS; (try go_simp); (try with_reducible rfl))
                try simp only [Act.put, List.setIfInBounds_toArray, List.set_cons_zero, List.set_cons_succ]
                refine wpAnyH_take (i := 15) (oi := { dst := some 66, op := Op.indexAddr 63 (Operand.tmp 64) (Operand.tmp 65), type := 0, pos := "law.go:89", after := #[{ on := 13, ground := Ground.data }, { on := 14, ground := Ground.data }, { on := 12, ground := Ground.guard }], guard := some (12, false) }) (v := ?v7x16) rfl (by kernel_rfl) (by kernel_rfl) (by kernel_rfl) (fun _ _ _ h => h) (Or.inl ⟨by rfl, ?y7x16⟩) hn ?r7x16
                case y7x16 => (intro wS hS; (try go_simp); (try with_reducible rfl))
                try simp only [Act.put, List.setIfInBounds_toArray, List.set_cons_zero, List.set_cons_succ]
                refine wpAnyH_take (i := 16) (oi := { dst := some 67, op := Op.fieldAddr 66 (Operand.tmp 66) 1, type := 0, pos := "law.go:89", after := #[{ on := 15, ground := Ground.data }, { on := 12, ground := Ground.guard }], guard := some (12, false) }) (v := ?v7x17) rfl (by kernel_rfl) (by kernel_rfl) (by kernel_rfl) (fun _ _ _ h => h) (Or.inl ⟨by rfl, ?y7x17⟩) hn ?r7x17
                case y7x17 => (intro wS hS; (try go_simp); (try with_reducible rfl))
                try simp only [Act.put, List.setIfInBounds_toArray, List.set_cons_zero, List.set_cons_succ]
                refine wpAnyH_take (i := 17) (oi := { dst := some 68, op := Op.load 23 (Operand.tmp 67), type := 23, pos := "law.go:89", after := #[{ on := 16, ground := Ground.data }, { on := 12, ground := Ground.guard }], guard := some (12, false) }) (v := ?v7x18) rfl (by kernel_rfl) (by kernel_rfl) (by kernel_rfl) (fun _ _ _ h => h) (Or.inl ⟨by rfl, ?y7x18⟩) hn ?r7x18
                case y7x18 => (intro wS hS; have c := hS.cell hc1.out (fun h => h); (try go_simp); (try with_reducible rfl))
                try simp only [Act.put, List.setIfInBounds_toArray, List.set_cons_zero, List.set_cons_succ]
                refine wpAnyH_take (i := 18) (oi := { dst := some 69, op := Op.binOp BinOp.eql 23 (Operand.tmp 68) (Operand.const (Value.int IntKind.u64 18446744073709551615)) 23, type := 4, pos := "law.go:89", after := #[{ on := 17, ground := Ground.data }, { on := 12, ground := Ground.guard }], guard := some (12, false) }) (v := ?v7x19) rfl (by kernel_rfl) (by kernel_rfl) (by kernel_rfl) (fun _ _ _ h => h) (Or.inl ⟨by rfl, ?y7x19⟩) hn ?r7x19
                case y7x19 => (intro wS hS; (try go_simp); (try with_reducible rfl))
                try simp only [Act.put, List.setIfInBounds_toArray, List.set_cons_zero, List.set_cons_succ]
                refine wpAnyH_take (i := 19) (oi := { dst := some 70, op := Op.pick (Operand.tmp 63) (Operand.const (Value.bool true)) (Operand.tmp 69), type := 4, pos := "law.go:89", after := #[{ on := 12, ground := Ground.data }, { on := 18, ground := Ground.data }], guard := none }) (v := ?v7x20) rfl (by kernel_rfl) (by kernel_rfl) (by kernel_rfl) (fun _ _ _ h => h) (Or.inl ⟨by rfl, ?y7x20⟩) hn ?r7x20
                case y7x20 => (intro wS hS; (try go_simp); (try with_reducible rfl))
                try simp only [Act.put, List.setIfInBounds_toArray, List.set_cons_zero, List.set_cons_succ]
                refine wpAnyH_done (by kernel_rfl) ?_ _
                refine NoPanic.normal ?_
                go_wp2_with fail
                go_ret
                exact ⟨rfl, New.trans HN2.out hn⟩
              · have e2 : ((hi' : Int) == 18446744073709551615) = false := beq_eq_false_iff_ne.mpr (by omega)
                have ew2 : IntKind.u64.wrap ((x : Int) + df) = ((x + df : Nat) : Int) := by rw [IntWalk.u64_in _ (by omega)]; omega
                have HC2 : Hid (hi' < 18446744073709551615) := by show _ < _; omega
                have HX2 : Hid (x + df ≤ 5000 * (i + 1)) := by show _ ≤ _; omega
                clear hdf c2
                refine wp_region_noPanic ?_
                refine wp_region_held_drew (S := (New w2)) (by kernel_rfl) (by first | exact hn | exact (Upd.refl _ _).drew | exact Upd.drew (by assumption)) (fun hn => ?_)
                refine wpAnyH_take (i := 0) (oi := { dst := some 51, op := Op.move (Operand.tmp 0), type := 63, pos := "law.go:89", after := #[], guard := none }) (v := ?v8x1) rfl (by kernel_rfl) (by kernel_rfl) (by kernel_rfl) (fun _ _ _ h => h) (Or.inl ⟨by rfl, ?y8x1⟩) hn ?r8x1
                case y8x1 => (intro wS hS; (try go_simp); (try with_reducible rfl))
                try simp only [Act.put, List.setIfInBounds_toArray, List.set_cons_zero, List.set_cons_succ]
                refine wpAnyH_take (i := 1) (oi := { dst := some 52, op := Op.move (Operand.tmp 12), type := 3, pos := "law.go:89", after := #[], guard := none }) (v := ?v8x2) rfl (by kernel_rfl) (by kernel_rfl) (by kernel_rfl) (fun _ _ _ h => h) (Or.inl ⟨by rfl, ?y8x2⟩) hn ?r8x2
                case y8x2 => (intro wS hS; (try go_simp); (try with_reducible rfl))
                try simp only [Act.put, List.setIfInBounds_toArray, List.set_cons_zero, List.set_cons_succ]
                refine wpAnyH_take (i := 2) (oi := { dst := some 53, op := Op.indexAddr 63 (Operand.tmp 51) (Operand.tmp 52), type := 0, pos := "law.go:89", after := #[{ on := 0, ground := Ground.data }, { on := 1, ground := Ground.data }], guard := none }) (v := ?v8x3) rfl (by kernel_rfl) (by kernel_rfl) (by kernel_rfl) (fun _ _ _ h => h) (Or.inl ⟨by rfl, ?y8x3⟩) hn ?r8x3
                case y8x3 => (intro wS hS; (try go_simp); (try with_reducible rfl))
                try simp only [Act.put, List.setIfInBounds_toArray, List.set_cons_zero, List.set_cons_succ]
                refine wpAnyH_take (i := 3) (oi := { dst := some 54, op := Op.fieldAddr 66 (Operand.tmp 53) 1, type := 0, pos := "law.go:89", after := #[{ on := 2, ground := Ground.data }], guard := none }) (v := ?v8x4) rfl (by kernel_rfl) (by kernel_rfl) (by kernel_rfl) (fun _ _ _ h => h) (Or.inl ⟨by rfl, ?y8x4⟩) hn ?r8x4
                case y8x4 => (intro wS hS; (try go_simp); (try with_reducible rfl))
                try simp only [Act.put, List.setIfInBounds_toArray, List.set_cons_zero, List.set_cons_succ]
                refine wpAnyH_take (i := 4) (oi := { dst := some 55, op := Op.load 23 (Operand.tmp 54), type := 23, pos := "law.go:89", after := #[{ on := 3, ground := Ground.data }], guard := none }) (v := ?v8x5) rfl (by kernel_rfl) (by kernel_rfl) (by kernel_rfl) (fun _ _ _ h => h) (Or.inl ⟨by rfl, ?y8x5⟩) hn ?r8x5
                case y8x5 => (intro wS hS; have c := hS.cell hc1.out (fun h => h); (try go_simp); (try with_reducible rfl))
                try simp only [Act.put, List.setIfInBounds_toArray, List.set_cons_zero, List.set_cons_succ]
                refine wpAnyH_take (i := 5) (oi := { dst := some 56, op := Op.move (Operand.tmp 0), type := 63, pos := "law.go:89", after := #[], guard := none }) (v := ?v8x6) rfl (by kernel_rfl) (by kernel_rfl) (by kernel_rfl) (fun _ _ _ h => h) (Or.inl ⟨by rfl, ?y8x6⟩) hn ?r8x6
                case y8x6 => (intro wS hS; (try go_simp); (try with_reducible rfl))
                try simp only [Act.put, List.setIfInBounds_toArray, List.set_cons_zero, List.set_cons_succ]
                refine wpAnyH_take (i := 6) (oi := { dst := some 57, op := Op.move (Operand.tmp 12), type := 3, pos := "law.go:89", after := #[], guard := none }) (v := ?v8x7) rfl (by kernel_rfl) (by kernel_rfl) (by kernel_rfl) (fun _ _ _ h => h) (Or.inl ⟨by rfl, ?y8x7⟩) hn ?r8x7
                case y8x7 => (intro wS hS; (try go_simp); (try with_reducible rfl))
                try simp only [Act.put, List.setIfInBounds_toArray, List.set_cons_zero, List.set_cons_succ]
                refine wpAnyH_take (i := 7) (oi := { dst := some 58, op := Op.indexAddr 63 (Operand.tmp 56) (Operand.tmp 57), type := 0, pos := "law.go:89", after := #[{ on := 5, ground := Ground.data }, { on := 6, ground := Ground.data }], guard := none }) (v := ?v8x8) rfl (by kernel_rfl) (by kernel_rfl) (by kernel_rfl) (fun _ _ _ h => h) (Or.inl ⟨by rfl, ?y8x8⟩) hn ?r8x8
                case y8x8 => (intro wS hS; (try go_simp); (try with_reducible rfl))
                try simp only [Act.put, List.setIfInBounds_toArray, List.set_cons_zero, List.set_cons_succ]
                refine wpAnyH_take (i := 8) (oi := { dst := some 59, op := Op.fieldAddr 66 (Operand.tmp 58) 0, type := 0, pos := "law.go:89", after := #[{ on := 7, ground := Ground.data }], guard := none }) (v := ?v8x9) rfl (by kernel_rfl) (by kernel_rfl) (by kernel_rfl) (fun _ _ _ h => h) (Or.inl ⟨by rfl, ?y8x9⟩) hn ?r8x9
                case y8x9 => (intro wS hS; (try go_simp); (try with_reducible rfl))
                try simp only [Act.put, List.setIfInBounds_toArray, List.set_cons_zero, List.set_cons_succ]
                refine wpAnyH_take (i := 9) (oi := { dst := some 60, op := Op.load 23 (Operand.tmp 59), type := 23, pos := "law.go:89", after := #[{ on := 8, ground := Ground.data }], guard := none }) (v := ?v8x10) rfl (by kernel_rfl) (by kernel_rfl) (by kernel_rfl) (fun _ _ _ h => h) (Or.inl ⟨by rfl, ?y8x10⟩) hn ?r8x10
                case y8x10 => (intro wS hS; have c := hS.cell hc0.out (fun h => h); (try go_simp); (try with_reducible rfl))
                try simp only [Act.put, List.setIfInBounds_toArray, List.set_cons_zero, List.set_cons_succ]
                refine wpAnyH_take (i := 10) (oi := { dst := some 61, op := Op.binOp BinOp.sub 23 (Operand.tmp 55) (Operand.tmp 60) 23, type := 23, pos := "law.go:89", after := #[{ on := 4, ground := Ground.data }, { on := 9, ground := Ground.data }], guard := none }) (v := ?v8x11) rfl (by kernel_rfl) (by kernel_rfl) (by kernel_rfl) (fun _ _ _ h => h) (Or.inl ⟨by rfl, ?y8x11⟩) hn ?r8x11
                case y8x11 => (intro wS hS; (try go_simp); (try with_reducible rfl))
                try simp only [Act.put, List.setIfInBounds_toArray, List.set_cons_zero, List.set_cons_succ]
                refine wpAnyH_take (i := 11) (oi := { dst := some 62, op := Op.binOp BinOp.gtr 23 (Operand.tmp 61) (Operand.const (Value.int IntKind.u64 5000)) 23, type := 4, pos := "law.go:89", after := #[{ on := 10, ground := Ground.data }], guard := none }) (v := ?v8x12) rfl (by kernel_rfl) (by kernel_rfl) (by kernel_rfl) (fun _ _ _ h => h) (Or.inl ⟨by rfl, ?y8x12⟩) hn ?r8x12
                case y8x12 => (intro wS hS; (try go_simp); (try with_reducible rfl))
                try simp only [Act.put, List.setIfInBounds_toArray, List.set_cons_zero, List.set_cons_succ]
                refine wpAnyH_take (i := 12) (oi := { dst := some 63, op := Op.move (Operand.tmp 62), type := 4, pos := "law.go:89", after := #[{ on := 11, ground := Ground.data }], guard := none }) (v := ?v8x13) rfl (by kernel_rfl) (by kernel_rfl) (by kernel_rfl) (fun _ _ _ h => h) (Or.inl ⟨by rfl, ?y8x13⟩) hn ?r8x13
                case y8x13 => (intro wS hS; (try go_simp); (try with_reducible rfl))
                try simp only [Act.put, List.setIfInBounds_toArray, List.set_cons_zero, List.set_cons_succ]
                refine wpAnyH_take (i := 13) (oi := { dst := some 64, op := Op.move (Operand.tmp 0), type := 63, pos := "law.go:89", after := #[{ on := 12, ground := Ground.guard }], guard := some (12, false) }) (v := ?v8x14) rfl (by kernel_rfl) (by kernel_rfl) (by kernel_rfl) (fun _ _ _ h => h) (Or.inl ⟨by rfl, ?y8x14⟩) hn ?r8x14
                case y8x14 => (intro wS hS; (try go_simp); (try with_reducible rfl))
                try simp only [Act.put, List.setIfInBounds_toArray, List.set_cons_zero, List.set_cons_succ]
                refine wpAnyH_take (i := 14) (oi := { dst := some 65, op := Op.move (Operand.tmp 12), type := 3, pos := "law.go:89", after := #[{ on := 12, ground := Ground.guard }], guard := some (12, false) }) (v := ?v8x15) rfl (by kernel_rfl) (by kernel_rfl) (by kernel_rfl) (fun _ _ _ h => h) (Or.inl ⟨by rfl, ?y8x15⟩) hn ?r8x15
                case y8x15 => (intro wS hS; (try go_simp); (try with_reducible rfl))
                try simp only [Act.put, List.setIfInBounds_toArray, List.set_cons_zero, List.set_cons_succ]
                refine wpAnyH_take (i := 15) (oi := { dst := some 66, op := Op.indexAddr 63 (Operand.tmp 64) (Operand.tmp 65), type := 0, pos := "law.go:89", after := #[{ on := 13, ground := Ground.data }, { on := 14, ground := Ground.data }, { on := 12, ground := Ground.guard }], guard := some (12, false) }) (v := ?v8x16) rfl (by kernel_rfl) (by kernel_rfl) (by kernel_rfl) (fun _ _ _ h => h) (Or.inl ⟨by rfl, ?y8x16⟩) hn ?r8x16
                case y8x16 => (intro wS hS; (try go_simp); (try with_reducible rfl))
                try simp only [Act.put, List.setIfInBounds_toArray, List.set_cons_zero, List.set_cons_succ]
                refine wpAnyH_take (i := 16) (oi := { dst := some 67, op := Op.fieldAddr 66 (Operand.tmp 66) 1, type := 0, pos := "law.go:89", after := #[{ on := 15, ground := Ground.data }, { on := 12, ground := Ground.guard }], guard := some (12, false) }) (v := ?v8x17) rfl (by kernel_rfl) (by kernel_rfl) (by kernel_rfl) (fun _ _ _ h => h) (Or.inl ⟨by rfl, ?y8x17⟩) hn ?r8x17
                case y8x17 => (intro wS hS; (try go_simp); (try with_reducible rfl))
                try simp only [Act.put, List.setIfInBounds_toArray, List.set_cons_zero, List.set_cons_succ]
                refine wpAnyH_take (i := 17) (oi := { dst := some 68, op := Op.load 23 (Operand.tmp 67), type := 23, pos := "law.go:89", after := #[{ on := 16, ground := Ground.data }, { on := 12, ground := Ground.guard }], guard := some (12, false) }) (v := ?v8x18) rfl (by kernel_rfl) (by kernel_rfl) (by kernel_rfl) (fun _ _ _ h => h) (Or.inl ⟨by rfl, ?y8x18⟩) hn ?r8x18
                case y8x18 => (intro wS hS; have c := hS.cell hc1.out (fun h => h); (try go_simp); (try with_reducible rfl))
                try simp only [Act.put, List.setIfInBounds_toArray, List.set_cons_zero, List.set_cons_succ]
                refine wpAnyH_take (i := 18) (oi := { dst := some 69, op := Op.binOp BinOp.eql 23 (Operand.tmp 68) (Operand.const (Value.int IntKind.u64 18446744073709551615)) 23, type := 4, pos := "law.go:89", after := #[{ on := 17, ground := Ground.data }, { on := 12, ground := Ground.guard }], guard := some (12, false) }) (v := ?v8x19) rfl (by kernel_rfl) (by kernel_rfl) (by kernel_rfl) (fun _ _ _ h => h) (Or.inl ⟨by rfl, ?y8x19⟩) hn ?r8x19
                case y8x19 => (intro wS hS; (try go_simp); (try with_reducible rfl))
                try simp only [Act.put, List.setIfInBounds_toArray, List.set_cons_zero, List.set_cons_succ]
                refine wpAnyH_take (i := 19) (oi := { dst := some 70, op := Op.pick (Operand.tmp 63) (Operand.const (Value.bool true)) (Operand.tmp 69), type := 4, pos := "law.go:89", after := #[{ on := 12, ground := Ground.data }, { on := 18, ground := Ground.data }], guard := none }) (v := ?v8x20) rfl (by kernel_rfl) (by kernel_rfl) (by kernel_rfl) (fun _ _ _ h => h) (Or.inl ⟨by rfl, ?y8x20⟩) hn ?r8x20
                case y8x20 => (intro wS hS; (try go_simp); (try with_reducible rfl))
                try simp only [Act.put, List.setIfInBounds_toArray, List.set_cons_zero, List.set_cons_succ]
                refine wpAnyH_done (by kernel_rfl) ?_ _
                refine NoPanic.normal ?_
                go_wp2_with fail
                refine wp_region_noPanic ?_
                refine wp_region_held_drew (S := (New w2)) (by kernel_rfl) (by first | exact hn | exact (Upd.refl _ _).drew | exact Upd.drew (by assumption)) (fun hn => ?_)
                refine wpAnyH_take (i := 0) (oi := { dst := some 71, op := Op.move (Operand.tmp 10), type := 23, pos := "law.go:92", after := #[], guard := none }) (v := ?v9x1) rfl (by kernel_rfl) (by kernel_rfl) (by kernel_rfl) (fun _ _ _ h => h) (Or.inl ⟨by rfl, ?y9x1⟩) hn ?r9x1
                case y9x1 => (intro wS hS; (try go_simp); (try with_reducible rfl))
                try simp only [Act.put, List.setIfInBounds_toArray, List.set_cons_zero, List.set_cons_succ]
                refine wpAnyH_take (i := 1) (oi := { dst := some 72, op := Op.move (Operand.tmp 0), type := 63, pos := "law.go:92", after := #[], guard := none }) (v := ?v9x2) rfl (by kernel_rfl) (by kernel_rfl) (by kernel_rfl) (fun _ _ _ h => h) (Or.inl ⟨by rfl, ?y9x2⟩) hn ?r9x2
                case y9x2 => (intro wS hS; (try go_simp); (try with_reducible rfl))
                try simp only [Act.put, List.setIfInBounds_toArray, List.set_cons_zero, List.set_cons_succ]
                refine wpAnyH_take (i := 2) (oi := { dst := some 73, op := Op.move (Operand.tmp 12), type := 3, pos := "law.go:92", after := #[], guard := none }) (v := ?v9x3) rfl (by kernel_rfl) (by kernel_rfl) (by kernel_rfl) (fun _ _ _ h => h) (Or.inl ⟨by rfl, ?y9x3⟩) hn ?r9x3
                case y9x3 => (intro wS hS; (try go_simp); (try with_reducible rfl))
                try simp only [Act.put, List.setIfInBounds_toArray, List.set_cons_zero, List.set_cons_succ]
                refine wpAnyH_take (i := 3) (oi := { dst := some 74, op := Op.indexAddr 63 (Operand.tmp 72) (Operand.tmp 73), type := 0, pos := "law.go:92", after := #[{ on := 1, ground := Ground.data }, { on := 2, ground := Ground.data }], guard := none }) (v := ?v9x4) rfl (by kernel_rfl) (by kernel_rfl) (by kernel_rfl) (fun _ _ _ h => h) (Or.inl ⟨by rfl, ?y9x4⟩) hn ?r9x4
                case y9x4 => (intro wS hS; (try go_simp); (try with_reducible rfl))
                try simp only [Act.put, List.setIfInBounds_toArray, List.set_cons_zero, List.set_cons_succ]
                refine wpAnyH_take (i := 4) (oi := { dst := some 75, op := Op.fieldAddr 66 (Operand.tmp 74) 1, type := 0, pos := "law.go:92", after := #[{ on := 3, ground := Ground.data }], guard := none }) (v := ?v9x5) rfl (by kernel_rfl) (by kernel_rfl) (by kernel_rfl) (fun _ _ _ h => h) (Or.inl ⟨by rfl, ?y9x5⟩) hn ?r9x5
                case y9x5 => (intro wS hS; (try go_simp); (try with_reducible rfl))
                try simp only [Act.put, List.setIfInBounds_toArray, List.set_cons_zero, List.set_cons_succ]
                refine wpAnyH_take (i := 5) (oi := { dst := some 76, op := Op.load 23 (Operand.tmp 75), type := 23, pos := "law.go:92", after := #[{ on := 4, ground := Ground.data }], guard := none }) (v := ?v9x6) rfl (by kernel_rfl) (by kernel_rfl) (by kernel_rfl) (fun _ _ _ h => h) (Or.inl ⟨by rfl, ?y9x6⟩) hn ?r9x6
                case y9x6 => (intro wS hS; have c := hS.cell hc1.out (fun h => h); (try go_simp); (try with_reducible rfl))
                try simp only [Act.put, List.setIfInBounds_toArray, List.set_cons_zero, List.set_cons_succ]
                refine wpAnyH_take (i := 6) (oi := { dst := some 77, op := Op.move (Operand.tmp 0), type := 63, pos := "law.go:92", after := #[], guard := none }) (v := ?v9x7) rfl (by kernel_rfl) (by kernel_rfl) (by kernel_rfl) (fun _ _ _ h => h) (Or.inl ⟨by rfl, ?y9x7⟩) hn ?r9x7
                case y9x7 => (intro wS hS; (try go_simp); (try with_reducible rfl))
                try simp only [Act.put, List.setIfInBounds_toArray, List.set_cons_zero, List.set_cons_succ]
                refine wpAnyH_take (i := 7) (oi := { dst := some 78, op := Op.move (Operand.tmp 12), type := 3, pos := "law.go:92", after := #[], guard := none }) (v := ?v9x8) rfl (by kernel_rfl) (by kernel_rfl) (by kernel_rfl) (fun _ _ _ h => h) (Or.inl ⟨by rfl, ?y9x8⟩) hn ?r9x8
                case y9x8 => (intro wS hS; (try go_simp); (try with_reducible rfl))
                try simp only [Act.put, List.setIfInBounds_toArray, List.set_cons_zero, List.set_cons_succ]
                refine wpAnyH_take (i := 8) (oi := { dst := some 79, op := Op.indexAddr 63 (Operand.tmp 77) (Operand.tmp 78), type := 0, pos := "law.go:92", after := #[{ on := 6, ground := Ground.data }, { on := 7, ground := Ground.data }], guard := none }) (v := ?v9x9) rfl (by kernel_rfl) (by kernel_rfl) (by kernel_rfl) (fun _ _ _ h => h) (Or.inl ⟨by rfl, ?y9x9⟩) hn ?r9x9
                case y9x9 => (intro wS hS; (try go_simp); (try with_reducible rfl))
                try simp only [Act.put, List.setIfInBounds_toArray, List.set_cons_zero, List.set_cons_succ]
                refine wpAnyH_take (i := 9) (oi := { dst := some 80, op := Op.fieldAddr 66 (Operand.tmp 79) 0, type := 0, pos := "law.go:92", after := #[{ on := 8, ground := Ground.data }], guard := none }) (v := ?v9x10) rfl (by kernel_rfl) (by kernel_rfl) (by kernel_rfl) (fun _ _ _ h => h) (Or.inl ⟨by rfl, ?y9x10⟩) hn ?r9x10
                case y9x10 => (intro wS hS; (try go_simp); (try with_reducible rfl))
                try simp only [Act.put, List.setIfInBounds_toArray, List.set_cons_zero, List.set_cons_succ]
                refine wpAnyH_take (i := 10) (oi := { dst := some 81, op := Op.load 23 (Operand.tmp 80), type := 23, pos := "law.go:92", after := #[{ on := 9, ground := Ground.data }], guard := none }) (v := ?v9x11) rfl (by kernel_rfl) (by kernel_rfl) (by kernel_rfl) (fun _ _ _ h => h) (Or.inl ⟨by rfl, ?y9x11⟩) hn ?r9x11
                case y9x11 => (intro wS hS; have c := hS.cell hc0.out (fun h => h); (try go_simp); (try with_reducible rfl))
                try simp only [Act.put, List.setIfInBounds_toArray, List.set_cons_zero, List.set_cons_succ]
                refine wpAnyH_take (i := 11) (oi := { dst := some 82, op := Op.binOp BinOp.sub 23 (Operand.tmp 76) (Operand.tmp 81) 23, type := 23, pos := "law.go:92", after := #[{ on := 5, ground := Ground.data }, { on := 10, ground := Ground.data }], guard := none }) (v := ?v9x12) rfl (by kernel_rfl) (by kernel_rfl) (by kernel_rfl) (fun _ _ _ h => h) (Or.inl ⟨by rfl, ?y9x12⟩) hn ?r9x12
                case y9x12 => (intro wS hS; (try go_simp); (try with_reducible rfl))
                try simp only [Act.put, List.setIfInBounds_toArray, List.set_cons_zero, List.set_cons_succ]
                refine wpAnyH_take (i := 12) (oi := { dst := some 83, op := Op.binOp BinOp.add 23 (Operand.tmp 71) (Operand.tmp 82) 23, type := 23, pos := "law.go:92", after := #[{ on := 0, ground := Ground.data }, { on := 11, ground := Ground.data }], guard := none }) (v := ?v9x13) rfl (by kernel_rfl) (by kernel_rfl) (by kernel_rfl) (fun _ _ _ h => h) (Or.inl ⟨by rfl, ?y9x13⟩) hn ?r9x13
                case y9x13 => (intro wS hS; (try go_simp); (try with_reducible rfl))
                try simp only [Act.put, List.setIfInBounds_toArray, List.set_cons_zero, List.set_cons_succ]
                refine wpAnyH_take (i := 13) (oi := { dst := some 10, op := Op.assign (Operand.tmp 83), type := 23, pos := "law.go:92", after := #[{ on := 12, ground := Ground.data }, { on := 0, ground := Ground.phase }, { on := 1, ground := Ground.phase }, { on := 2, ground := Ground.phase }, { on := 3, ground := Ground.phase }, { on := 4, ground := Ground.phase }, { on := 5, ground := Ground.phase }, { on := 6, ground := Ground.phase }, { on := 7, ground := Ground.phase }, { on := 8, ground := Ground.phase }, { on := 9, ground := Ground.phase }, { on := 10, ground := Ground.phase }, { on := 11, ground := Ground.phase }, { on := 12, ground := Ground.phase }], guard := none }) (v := ?v9x14) rfl (by kernel_rfl) (by kernel_rfl) (by kernel_rfl) (fun _ _ _ h => h) (Or.inl ⟨by rfl, ?y9x14⟩) hn ?r9x14
                case y9x14 => (intro wS hS; (try go_simp); (try with_reducible rfl))
                try simp only [Act.put, List.setIfInBounds_toArray, List.set_cons_zero, List.set_cons_succ]
                refine wpAnyH_done (by kernel_rfl) ?_ _
                refine NoPanic.normal ?_
                go_wp2_with fail
                refine wp_region_noPanic ?_
                refine wp_region_held_drew (S := (New w2)) (by kernel_rfl) (by first | exact hn | exact (Upd.refl _ _).drew | exact Upd.drew (by assumption)) (fun hn => ?_)
                refine wpAnyH_take (i := 0) (oi := { dst := some 84, op := Op.move (Operand.tmp 11), type := 65, pos := "law.go:94", after := #[], guard := none }) (v := ?v10x1) rfl (by kernel_rfl) (by kernel_rfl) (by kernel_rfl) (fun _ _ _ h => h) (Or.inl ⟨by rfl, ?y10x1⟩) hn ?r10x1
                case y10x1 => (intro wS hS; (try go_simp); (try with_reducible rfl))
                try simp only [Act.put, List.setIfInBounds_toArray, List.set_cons_zero, List.set_cons_succ]
                refine wpAnyH_take (i := 1) (oi := { dst := some 85, op := Op.move (Operand.tmp 0), type := 63, pos := "law.go:94", after := #[], guard := none }) (v := ?v10x2) rfl (by kernel_rfl) (by kernel_rfl) (by kernel_rfl) (fun _ _ _ h => h) (Or.inl ⟨by rfl, ?y10x2⟩) hn ?r10x2
                case y10x2 => (intro wS hS; (try go_simp); (try with_reducible rfl))
                try simp only [Act.put, List.setIfInBounds_toArray, List.set_cons_zero, List.set_cons_succ]
                refine wpAnyH_take (i := 2) (oi := { dst := some 86, op := Op.move (Operand.tmp 12), type := 3, pos := "law.go:94", after := #[], guard := none }) (v := ?v10x3) rfl (by kernel_rfl) (by kernel_rfl) (by kernel_rfl) (fun _ _ _ h => h) (Or.inl ⟨by rfl, ?y10x3⟩) hn ?r10x3
                case y10x3 => (intro wS hS; (try go_simp); (try with_reducible rfl))
                try simp only [Act.put, List.setIfInBounds_toArray, List.set_cons_zero, List.set_cons_succ]
                refine wpAnyH_take (i := 3) (oi := { dst := some 87, op := Op.indexAddr 63 (Operand.tmp 85) (Operand.tmp 86), type := 0, pos := "law.go:94", after := #[{ on := 1, ground := Ground.data }, { on := 2, ground := Ground.data }], guard := none }) (v := ?v10x4) rfl (by kernel_rfl) (by kernel_rfl) (by kernel_rfl) (fun _ _ _ h => h) (Or.inl ⟨by rfl, ?y10x4⟩) hn ?r10x4
                case y10x4 => (intro wS hS; (try go_simp); (try with_reducible rfl))
                try simp only [Act.put, List.setIfInBounds_toArray, List.set_cons_zero, List.set_cons_succ]
                refine wpAnyH_take (i := 4) (oi := { dst := some 88, op := Op.fieldAddr 66 (Operand.tmp 87) 0, type := 0, pos := "law.go:94", after := #[{ on := 3, ground := Ground.data }], guard := none }) (v := ?v10x5) rfl (by kernel_rfl) (by kernel_rfl) (by kernel_rfl) (fun _ _ _ h => h) (Or.inl ⟨by rfl, ?y10x5⟩) hn ?r10x5
                case y10x5 => (intro wS hS; (try go_simp); (try with_reducible rfl))
                try simp only [Act.put, List.setIfInBounds_toArray, List.set_cons_zero, List.set_cons_succ]
                refine wpAnyH_take (i := 5) (oi := { dst := some 89, op := Op.load 23 (Operand.tmp 88), type := 23, pos := "law.go:94", after := #[{ on := 4, ground := Ground.data }], guard := none }) (v := ?v10x6) rfl (by kernel_rfl) (by kernel_rfl) (by kernel_rfl) (fun _ _ _ h => h) (Or.inl ⟨by rfl, ?y10x6⟩) hn ?r10x6
                case y10x6 => (intro wS hS; have c := hS.cell hc0.out (fun h => h); (try go_simp); (try with_reducible rfl))
                try simp only [Act.put, List.setIfInBounds_toArray, List.set_cons_zero, List.set_cons_succ]
                refine wpAnyH_take (i := 6) (oi := { dst := some 90, op := Op.move (Operand.tmp 0), type := 63, pos := "law.go:94", after := #[], guard := none }) (v := ?v10x7) rfl (by kernel_rfl) (by kernel_rfl) (by kernel_rfl) (fun _ _ _ h => h) (Or.inl ⟨by rfl, ?y10x7⟩) hn ?r10x7
                case y10x7 => (intro wS hS; (try go_simp); (try with_reducible rfl))
                try simp only [Act.put, List.setIfInBounds_toArray, List.set_cons_zero, List.set_cons_succ]
                refine wpAnyH_take (i := 7) (oi := { dst := some 91, op := Op.move (Operand.tmp 12), type := 3, pos := "law.go:94", after := #[], guard := none }) (v := ?v10x8) rfl (by kernel_rfl) (by kernel_rfl) (by kernel_rfl) (fun _ _ _ h => h) (Or.inl ⟨by rfl, ?y10x8⟩) hn ?r10x8
                case y10x8 => (intro wS hS; (try go_simp); (try with_reducible rfl))
                try simp only [Act.put, List.setIfInBounds_toArray, List.set_cons_zero, List.set_cons_succ]
                refine wpAnyH_take (i := 8) (oi := { dst := some 92, op := Op.indexAddr 63 (Operand.tmp 90) (Operand.tmp 91), type := 0, pos := "law.go:94", after := #[{ on := 6, ground := Ground.data }, { on := 7, ground := Ground.data }], guard := none }) (v := ?v10x9) rfl (by kernel_rfl) (by kernel_rfl) (by kernel_rfl) (fun _ _ _ h => h) (Or.inl ⟨by rfl, ?y10x9⟩) hn ?r10x9
                case y10x9 => (intro wS hS; (try go_simp); (try with_reducible rfl))
                try simp only [Act.put, List.setIfInBounds_toArray, List.set_cons_zero, List.set_cons_succ]
                refine wpAnyH_take (i := 9) (oi := { dst := some 93, op := Op.fieldAddr 66 (Operand.tmp 92) 1, type := 0, pos := "law.go:94", after := #[{ on := 8, ground := Ground.data }], guard := none }) (v := ?v10x10) rfl (by kernel_rfl) (by kernel_rfl) (by kernel_rfl) (fun _ _ _ h => h) (Or.inl ⟨by rfl, ?y10x10⟩) hn ?r10x10
                case y10x10 => (intro wS hS; (try go_simp); (try with_reducible rfl))
                try simp only [Act.put, List.setIfInBounds_toArray, List.set_cons_zero, List.set_cons_succ]
                refine wpAnyH_take (i := 10) (oi := { dst := some 94, op := Op.load 23 (Operand.tmp 93), type := 23, pos := "law.go:94", after := #[{ on := 9, ground := Ground.data }], guard := none }) (v := ?v10x11) rfl (by kernel_rfl) (by kernel_rfl) (by kernel_rfl) (fun _ _ _ h => h) (Or.inl ⟨by rfl, ?y10x11⟩) hn ?r10x11
                case y10x11 => (intro wS hS; have c := hS.cell hc1.out (fun h => h); (try go_simp); (try with_reducible rfl))
                try simp only [Act.put, List.setIfInBounds_toArray, List.set_cons_zero, List.set_cons_succ]
                refine wpAnyH_take (i := 11) (oi := { dst := some 95, op := Op.build 58 #[(0, Operand.tmp 89), (1, Operand.tmp 94)], type := 58, pos := "law.go:94", after := #[{ on := 5, ground := Ground.data }, { on := 10, ground := Ground.data }], guard := none }) (v := ?v10x12) rfl (by kernel_rfl) (by kernel_rfl) (by kernel_rfl) (fun _ _ _ h => h) (Or.inl ⟨by rfl, ?y10x12⟩) hn ?r10x12
                case y10x12 => (intro wS hS; (try go_simp); (try with_reducible rfl))
                try simp only [Act.put, List.setIfInBounds_toArray, List.set_cons_zero, List.set_cons_succ]
                refine wpAnyH_ready (rs := [12]) (by kernel_rfl) (by simp) ?_
                refine AllReadyH.cons (o := { dst := some 96, op := Op.buildSlice 65 1 #[(0, Operand.tmp 95)], type := 65, pos := "law.go:94", after := #[{ on := 11, ground := Ground.data }], guard := none }) rfl (fun K hK => ?_) AllReadyH.nil
                go_simp
                refine allocStep hn ?_
                intro W2 hu hn hz
                have hpw := HP.out.new (New.trans (by repeat (first | exact Upd.refl _ _ | apply Upd.drew)) hu)
                refine hK.out _ _ (by first | exact hn | exact Upd.alloc hn _) (fun hn => ?_)
                clear hK K
                try simp only [Act.put, List.setIfInBounds_toArray, List.set_cons_zero, List.set_cons_succ]
                refine wpAnyH_ready (rs := [13]) (by kernel_rfl) (by simp) ?_
                refine AllReadyH.cons (o := { dst := some 97, op := Op.call { callee := Callee.builtin Builtin.append, args := #[Operand.tmp 84, Operand.tmp 96], argTypes := #[65, 65] }, type := 65, pos := "law.go:94", after := #[{ on := 0, ground := Ground.data }, { on := 12, ground := Ground.data }], guard := none }) rfl (fun K hK => ?_) AllReadyH.nil
                refine stepP _ _ lo hi' hpw hz (by simp; omega) rfl rfl rfl rfl ?_
                intro va wa hpa haa
                have hf := HF.out.adds hn.size haa
                have hn := Upd.newAdds hn HF.out haa
                refine hK.out _ _ (by first | exact hn | exact Upd.alloc hn _) (fun hn => ?_)
                clear hK K
                try simp only [Act.put, List.setIfInBounds_toArray, List.set_cons_zero, List.set_cons_succ]
                refine wpAnyH_take (i := 14) (oi := { dst := some 11, op := Op.assign (Operand.tmp 97), type := 65, pos := "law.go:94", after := #[{ on := 13, ground := Ground.data }, { on := 13, ground := Ground.chain }, { on := 0, ground := Ground.phase }, { on := 1, ground := Ground.phase }, { on := 2, ground := Ground.phase }, { on := 3, ground := Ground.phase }, { on := 4, ground := Ground.phase }, { on := 5, ground := Ground.phase }, { on := 6, ground := Ground.phase }, { on := 7, ground := Ground.phase }, { on := 8, ground := Ground.phase }, { on := 9, ground := Ground.phase }, { on := 10, ground := Ground.phase }, { on := 11, ground := Ground.phase }, { on := 12, ground := Ground.phase }, { on := 13, ground := Ground.phase }], guard := none }) (v := ?v10x13) rfl (by kernel_rfl) (by kernel_rfl) (by kernel_rfl) (fun _ _ _ h => h) (Or.inl ⟨by rfl, ?y10x13⟩) hn ?r10x13
                case y10x13 => (intro wS hS; (try go_simp); (try with_reducible rfl))
                try simp only [Act.put, List.setIfInBounds_toArray, List.set_cons_zero, List.set_cons_succ]
                refine wpAnyH_done (by kernel_rfl) ?_ _
                refine NoPanic.normal ?_
                go_wp2_with fail
                go_roundg (rs.length - (i + 1))
                case measure => omega
                case rel => exact ⟨i + 1, x + df, rfl, rfl, by go_num, by omega, HX2.out, by rw [HTK.out]; exact hpa, hn, hf, HX.out (.inr HC2.out)⟩
          · have hge' : ¬ (lo : Int) ≤ hi' := by omega
            refine wp_region_noPanic ?_
            refine wp_region_held_drew (S := (New w2)) (by kernel_rfl) (by first | exact hn | exact (Upd.refl _ _).drew | exact Upd.drew (by assumption)) (fun hn => ?_)
            refine wpAnyH_take (i := 0) (oi := { dst := some 40, op := Op.move (Operand.tmp 0), type := 63, pos := "law.go:88", after := #[], guard := none }) (v := ?v11x1) rfl (by kernel_rfl) (by kernel_rfl) (by kernel_rfl) (fun _ _ _ h => h) (Or.inl ⟨by rfl, ?y11x1⟩) hn ?r11x1
            case y11x1 => (intro wS hS; (try go_simp); (try with_reducible rfl))
            try simp only [Act.put, List.setIfInBounds_toArray, List.set_cons_zero, List.set_cons_succ]
            refine wpAnyH_take (i := 1) (oi := { dst := some 41, op := Op.move (Operand.tmp 12), type := 3, pos := "law.go:88", after := #[], guard := none }) (v := ?v11x2) rfl (by kernel_rfl) (by kernel_rfl) (by kernel_rfl) (fun _ _ _ h => h) (Or.inl ⟨by rfl, ?y11x2⟩) hn ?r11x2
            case y11x2 => (intro wS hS; (try go_simp); (try with_reducible rfl))
            try simp only [Act.put, List.setIfInBounds_toArray, List.set_cons_zero, List.set_cons_succ]
            refine wpAnyH_take (i := 2) (oi := { dst := some 42, op := Op.indexAddr 63 (Operand.tmp 40) (Operand.tmp 41), type := 0, pos := "law.go:88", after := #[{ on := 0, ground := Ground.data }, { on := 1, ground := Ground.data }], guard := none }) (v := ?v11x3) rfl (by kernel_rfl) (by kernel_rfl) (by kernel_rfl) (fun _ _ _ h => h) (Or.inl ⟨by rfl, ?y11x3⟩) hn ?r11x3
            case y11x3 => (intro wS hS; (try go_simp); (try with_reducible rfl))
            try simp only [Act.put, List.setIfInBounds_toArray, List.set_cons_zero, List.set_cons_succ]
            refine wpAnyH_take (i := 3) (oi := { dst := some 43, op := Op.fieldAddr 66 (Operand.tmp 42) 1, type := 0, pos := "law.go:88", after := #[{ on := 2, ground := Ground.data }], guard := none }) (v := ?v11x4) rfl (by kernel_rfl) (by kernel_rfl) (by kernel_rfl) (fun _ _ _ h => h) (Or.inl ⟨by rfl, ?y11x4⟩) hn ?r11x4
            case y11x4 => (intro wS hS; (try go_simp); (try with_reducible rfl))
            try simp only [Act.put, List.setIfInBounds_toArray, List.set_cons_zero, List.set_cons_succ]
            refine wpAnyH_take (i := 4) (oi := { dst := some 44, op := Op.load 23 (Operand.tmp 43), type := 23, pos := "law.go:88", after := #[{ on := 3, ground := Ground.data }], guard := none }) (v := ?v11x5) rfl (by kernel_rfl) (by kernel_rfl) (by kernel_rfl) (fun _ _ _ h => h) (Or.inl ⟨by rfl, ?y11x5⟩) hn ?r11x5
            case y11x5 => (intro wS hS; have c := hS.cell hc1.out (fun h => h); (try go_simp); (try with_reducible rfl))
            try simp only [Act.put, List.setIfInBounds_toArray, List.set_cons_zero, List.set_cons_succ]
            refine wpAnyH_take (i := 5) (oi := { dst := some 45, op := Op.move (Operand.tmp 0), type := 63, pos := "law.go:88", after := #[], guard := none }) (v := ?v11x6) rfl (by kernel_rfl) (by kernel_rfl) (by kernel_rfl) (fun _ _ _ h => h) (Or.inl ⟨by rfl, ?y11x6⟩) hn ?r11x6
            case y11x6 => (intro wS hS; (try go_simp); (try with_reducible rfl))
            try simp only [Act.put, List.setIfInBounds_toArray, List.set_cons_zero, List.set_cons_succ]
            refine wpAnyH_take (i := 6) (oi := { dst := some 46, op := Op.move (Operand.tmp 12), type := 3, pos := "law.go:88", after := #[], guard := none }) (v := ?v11x7) rfl (by kernel_rfl) (by kernel_rfl) (by kernel_rfl) (fun _ _ _ h => h) (Or.inl ⟨by rfl, ?y11x7⟩) hn ?r11x7
            case y11x7 => (intro wS hS; (try go_simp); (try with_reducible rfl))
            try simp only [Act.put, List.setIfInBounds_toArray, List.set_cons_zero, List.set_cons_succ]
            refine wpAnyH_take (i := 7) (oi := { dst := some 47, op := Op.indexAddr 63 (Operand.tmp 45) (Operand.tmp 46), type := 0, pos := "law.go:88", after := #[{ on := 5, ground := Ground.data }, { on := 6, ground := Ground.data }], guard := none }) (v := ?v11x8) rfl (by kernel_rfl) (by kernel_rfl) (by kernel_rfl) (fun _ _ _ h => h) (Or.inl ⟨by rfl, ?y11x8⟩) hn ?r11x8
            case y11x8 => (intro wS hS; (try go_simp); (try with_reducible rfl))
            try simp only [Act.put, List.setIfInBounds_toArray, List.set_cons_zero, List.set_cons_succ]
            refine wpAnyH_take (i := 8) (oi := { dst := some 48, op := Op.fieldAddr 66 (Operand.tmp 47) 0, type := 0, pos := "law.go:88", after := #[{ on := 7, ground := Ground.data }], guard := none }) (v := ?v11x9) rfl (by kernel_rfl) (by kernel_rfl) (by kernel_rfl) (fun _ _ _ h => h) (Or.inl ⟨by rfl, ?y11x9⟩) hn ?r11x9
            case y11x9 => (intro wS hS; (try go_simp); (try with_reducible rfl))
            try simp only [Act.put, List.setIfInBounds_toArray, List.set_cons_zero, List.set_cons_succ]
            refine wpAnyH_take (i := 9) (oi := { dst := some 49, op := Op.load 23 (Operand.tmp 48), type := 23, pos := "law.go:88", after := #[{ on := 8, ground := Ground.data }], guard := none }) (v := ?v11x10) rfl (by kernel_rfl) (by kernel_rfl) (by kernel_rfl) (fun _ _ _ h => h) (Or.inl ⟨by rfl, ?y11x10⟩) hn ?r11x10
            case y11x10 => (intro wS hS; have c := hS.cell hc0.out (fun h => h); (try go_simp); (try with_reducible rfl))
            try simp only [Act.put, List.setIfInBounds_toArray, List.set_cons_zero, List.set_cons_succ]
            refine wpAnyH_take (i := 10) (oi := { dst := some 50, op := Op.binOp BinOp.geq 23 (Operand.tmp 44) (Operand.tmp 49) 23, type := 4, pos := "law.go:88", after := #[{ on := 4, ground := Ground.data }, { on := 9, ground := Ground.data }], guard := none }) (v := ?v11x11) rfl (by kernel_rfl) (by kernel_rfl) (by kernel_rfl) (fun _ _ _ h => h) (Or.inl ⟨by rfl, ?y11x11⟩) hn ?r11x11
            case y11x11 => (intro wS hS; (try go_simp); (try with_reducible rfl))
            try simp only [Act.put, List.setIfInBounds_toArray, List.set_cons_zero, List.set_cons_succ]
            refine wpAnyH_done (by kernel_rfl) ?_ _
            refine NoPanic.normal ?_
            go_wp2_with fail
            refine wp_region_noPanic ?_
            refine wp_region_held_drew (S := (New w2)) (by kernel_rfl) (by first | exact hn | exact (Upd.refl _ _).drew | exact Upd.drew (by assumption)) (fun hn => ?_)
            refine wpAnyH_take (i := 0) (oi := { dst := some 84, op := Op.move (Operand.tmp 11), type := 65, pos := "law.go:94", after := #[], guard := none }) (v := ?v12x1) rfl (by kernel_rfl) (by kernel_rfl) (by kernel_rfl) (fun _ _ _ h => h) (Or.inl ⟨by rfl, ?y12x1⟩) hn ?r12x1
            case y12x1 => (intro wS hS; (try go_simp); (try with_reducible rfl))
            try simp only [Act.put, List.setIfInBounds_toArray, List.set_cons_zero, List.set_cons_succ]
            refine wpAnyH_take (i := 1) (oi := { dst := some 85, op := Op.move (Operand.tmp 0), type := 63, pos := "law.go:94", after := #[], guard := none }) (v := ?v12x2) rfl (by kernel_rfl) (by kernel_rfl) (by kernel_rfl) (fun _ _ _ h => h) (Or.inl ⟨by rfl, ?y12x2⟩) hn ?r12x2
            case y12x2 => (intro wS hS; (try go_simp); (try with_reducible rfl))
            try simp only [Act.put, List.setIfInBounds_toArray, List.set_cons_zero, List.set_cons_succ]
            refine wpAnyH_take (i := 2) (oi := { dst := some 86, op := Op.move (Operand.tmp 12), type := 3, pos := "law.go:94", after := #[], guard := none }) (v := ?v12x3) rfl (by kernel_rfl) (by kernel_rfl) (by kernel_rfl) (fun _ _ _ h => h) (Or.inl ⟨by rfl, ?y12x3⟩) hn ?r12x3
            case y12x3 => (intro wS hS; (try go_simp); (try with_reducible rfl))
            try simp only [Act.put, List.setIfInBounds_toArray, List.set_cons_zero, List.set_cons_succ]
            refine wpAnyH_take (i := 3) (oi := { dst := some 87, op := Op.indexAddr 63 (Operand.tmp 85) (Operand.tmp 86), type := 0, pos := "law.go:94", after := #[{ on := 1, ground := Ground.data }, { on := 2, ground := Ground.data }], guard := none }) (v := ?v12x4) rfl (by kernel_rfl) (by kernel_rfl) (by kernel_rfl) (fun _ _ _ h => h) (Or.inl ⟨by rfl, ?y12x4⟩) hn ?r12x4
            case y12x4 => (intro wS hS; (try go_simp); (try with_reducible rfl))
            try simp only [Act.put, List.setIfInBounds_toArray, List.set_cons_zero, List.set_cons_succ]
            refine wpAnyH_take (i := 4) (oi := { dst := some 88, op := Op.fieldAddr 66 (Operand.tmp 87) 0, type := 0, pos := "law.go:94", after := #[{ on := 3, ground := Ground.data }], guard := none }) (v := ?v12x5) rfl (by kernel_rfl) (by kernel_rfl) (by kernel_rfl) (fun _ _ _ h => h) (Or.inl ⟨by rfl, ?y12x5⟩) hn ?r12x5
            case y12x5 => (intro wS hS; (try go_simp); (try with_reducible rfl))
            try simp only [Act.put, List.setIfInBounds_toArray, List.set_cons_zero, List.set_cons_succ]
            refine wpAnyH_take (i := 5) (oi := { dst := some 89, op := Op.load 23 (Operand.tmp 88), type := 23, pos := "law.go:94", after := #[{ on := 4, ground := Ground.data }], guard := none }) (v := ?v12x6) rfl (by kernel_rfl) (by kernel_rfl) (by kernel_rfl) (fun _ _ _ h => h) (Or.inl ⟨by rfl, ?y12x6⟩) hn ?r12x6
            case y12x6 => (intro wS hS; have c := hS.cell hc0.out (fun h => h); (try go_simp); (try with_reducible rfl))
            try simp only [Act.put, List.setIfInBounds_toArray, List.set_cons_zero, List.set_cons_succ]
            refine wpAnyH_take (i := 6) (oi := { dst := some 90, op := Op.move (Operand.tmp 0), type := 63, pos := "law.go:94", after := #[], guard := none }) (v := ?v12x7) rfl (by kernel_rfl) (by kernel_rfl) (by kernel_rfl) (fun _ _ _ h => h) (Or.inl ⟨by rfl, ?y12x7⟩) hn ?r12x7
            case y12x7 => (intro wS hS; (try go_simp); (try with_reducible rfl))
            try simp only [Act.put, List.setIfInBounds_toArray, List.set_cons_zero, List.set_cons_succ]
            refine wpAnyH_take (i := 7) (oi := { dst := some 91, op := Op.move (Operand.tmp 12), type := 3, pos := "law.go:94", after := #[], guard := none }) (v := ?v12x8) rfl (by kernel_rfl) (by kernel_rfl) (by kernel_rfl) (fun _ _ _ h => h) (Or.inl ⟨by rfl, ?y12x8⟩) hn ?r12x8
            case y12x8 => (intro wS hS; (try go_simp); (try with_reducible rfl))
            try simp only [Act.put, List.setIfInBounds_toArray, List.set_cons_zero, List.set_cons_succ]
            refine wpAnyH_take (i := 8) (oi := { dst := some 92, op := Op.indexAddr 63 (Operand.tmp 90) (Operand.tmp 91), type := 0, pos := "law.go:94", after := #[{ on := 6, ground := Ground.data }, { on := 7, ground := Ground.data }], guard := none }) (v := ?v12x9) rfl (by kernel_rfl) (by kernel_rfl) (by kernel_rfl) (fun _ _ _ h => h) (Or.inl ⟨by rfl, ?y12x9⟩) hn ?r12x9
            case y12x9 => (intro wS hS; (try go_simp); (try with_reducible rfl))
            try simp only [Act.put, List.setIfInBounds_toArray, List.set_cons_zero, List.set_cons_succ]
            refine wpAnyH_take (i := 9) (oi := { dst := some 93, op := Op.fieldAddr 66 (Operand.tmp 92) 1, type := 0, pos := "law.go:94", after := #[{ on := 8, ground := Ground.data }], guard := none }) (v := ?v12x10) rfl (by kernel_rfl) (by kernel_rfl) (by kernel_rfl) (fun _ _ _ h => h) (Or.inl ⟨by rfl, ?y12x10⟩) hn ?r12x10
            case y12x10 => (intro wS hS; (try go_simp); (try with_reducible rfl))
            try simp only [Act.put, List.setIfInBounds_toArray, List.set_cons_zero, List.set_cons_succ]
            refine wpAnyH_take (i := 10) (oi := { dst := some 94, op := Op.load 23 (Operand.tmp 93), type := 23, pos := "law.go:94", after := #[{ on := 9, ground := Ground.data }], guard := none }) (v := ?v12x11) rfl (by kernel_rfl) (by kernel_rfl) (by kernel_rfl) (fun _ _ _ h => h) (Or.inl ⟨by rfl, ?y12x11⟩) hn ?r12x11
            case y12x11 => (intro wS hS; have c := hS.cell hc1.out (fun h => h); (try go_simp); (try with_reducible rfl))
            try simp only [Act.put, List.setIfInBounds_toArray, List.set_cons_zero, List.set_cons_succ]
            refine wpAnyH_take (i := 11) (oi := { dst := some 95, op := Op.build 58 #[(0, Operand.tmp 89), (1, Operand.tmp 94)], type := 58, pos := "law.go:94", after := #[{ on := 5, ground := Ground.data }, { on := 10, ground := Ground.data }], guard := none }) (v := ?v12x12) rfl (by kernel_rfl) (by kernel_rfl) (by kernel_rfl) (fun _ _ _ h => h) (Or.inl ⟨by rfl, ?y12x12⟩) hn ?r12x12
            case y12x12 => (intro wS hS; (try go_simp); (try with_reducible rfl))
            try simp only [Act.put, List.setIfInBounds_toArray, List.set_cons_zero, List.set_cons_succ]
            refine wpAnyH_ready (rs := [12]) (by kernel_rfl) (by simp) ?_
            refine AllReadyH.cons (o := { dst := some 96, op := Op.buildSlice 65 1 #[(0, Operand.tmp 95)], type := 65, pos := "law.go:94", after := #[{ on := 11, ground := Ground.data }], guard := none }) rfl (fun K hK => ?_) AllReadyH.nil
            go_simp
            refine allocStep hn ?_
            intro W2 hu hn hz
            have hpw := HP.out.new (New.trans (by repeat (first | exact Upd.refl _ _ | apply Upd.drew)) hu)
            refine hK.out _ _ (by first | exact hn | exact Upd.alloc hn _) (fun hn => ?_)
            clear hK K
            try simp only [Act.put, List.setIfInBounds_toArray, List.set_cons_zero, List.set_cons_succ]
            refine wpAnyH_ready (rs := [13]) (by kernel_rfl) (by simp) ?_
            refine AllReadyH.cons (o := { dst := some 97, op := Op.call { callee := Callee.builtin Builtin.append, args := #[Operand.tmp 84, Operand.tmp 96], argTypes := #[65, 65] }, type := 65, pos := "law.go:94", after := #[{ on := 0, ground := Ground.data }, { on := 12, ground := Ground.data }], guard := none }) rfl (fun K hK => ?_) AllReadyH.nil
            refine stepP _ _ lo hi' hpw hz (by simp; omega) rfl rfl rfl rfl ?_
            intro va wa hpa haa
            have hf := HF.out.adds hn.size haa
            have hn := Upd.newAdds hn HF.out haa
            refine hK.out _ _ (by first | exact hn | exact Upd.alloc hn _) (fun hn => ?_)
            clear hK K
            try simp only [Act.put, List.setIfInBounds_toArray, List.set_cons_zero, List.set_cons_succ]
            refine wpAnyH_take (i := 14) (oi := { dst := some 11, op := Op.assign (Operand.tmp 97), type := 65, pos := "law.go:94", after := #[{ on := 13, ground := Ground.data }, { on := 13, ground := Ground.chain }, { on := 0, ground := Ground.phase }, { on := 1, ground := Ground.phase }, { on := 2, ground := Ground.phase }, { on := 3, ground := Ground.phase }, { on := 4, ground := Ground.phase }, { on := 5, ground := Ground.phase }, { on := 6, ground := Ground.phase }, { on := 7, ground := Ground.phase }, { on := 8, ground := Ground.phase }, { on := 9, ground := Ground.phase }, { on := 10, ground := Ground.phase }, { on := 11, ground := Ground.phase }, { on := 12, ground := Ground.phase }, { on := 13, ground := Ground.phase }], guard := none }) (v := ?v12x13) rfl (by kernel_rfl) (by kernel_rfl) (by kernel_rfl) (fun _ _ _ h => h) (Or.inl ⟨by rfl, ?y12x13⟩) hn ?r12x13
            case y12x13 => (intro wS hS; (try go_simp); (try with_reducible rfl))
            try simp only [Act.put, List.setIfInBounds_toArray, List.set_cons_zero, List.set_cons_succ]
            refine wpAnyH_done (by kernel_rfl) ?_ _
            refine NoPanic.normal ?_
            go_wp2_with fail
            go_roundg (rs.length - (i + 1))
            case measure => omega
            case rel => exact ⟨i + 1, x, rfl, rfl, by go_num, by omega, by omega, by rw [HTK.out]; exact hpa, hn, hf, HX.out (.inl (by omega))⟩
        · obtain rfl : rs.length = i := by omega
          have hp := HP.out
          rw [List.take_length] at hp
          obtain ⟨c, hc⟩ : ∃ c, (rs.any fun x => Span.look x.1 x.2 low s l b) = c := ⟨_, rfl⟩
          have hlow := HLOW.out
          rw [← HSE.out] at hlow
          have HF1 := hid (Fits_any _ rs low s l b wo hp.rdp (by omega) (by have := HS.out; omega) (by have := HL2.out; omega) (by have := HB2.out; omega) hlow HRB.out)
          have HF2 := hid (fun w' (h : New w2 w') => rFits_any _ rs low s l b w' (HR2.out.new h) (by omega) (by have := HS.out; omega) (by have := HL2.out; omega) (by have := HB2.out; omega) hlow (fun j hj => ⟨(HRB.out j hj).1, (HRB.out j hj).2, HBF.out j hj hj⟩))
          rw [hc] at HF1 HF2
          clear hc hlow hp
          by_cases q5 : 5000 < x
          · have q5' : (5000 : Int) < x := by omega
            go_wp2_with fail
            go_ret
            exact ⟨rfl, New.trans HN2.out HWO.out⟩
          · have q5' : (x : Int) ≤ 5000 := by omega
            go_wp2_with fail
            refine HF1.out.mono ?_
            rintro e wa ⟨rfl, hna⟩
            go_wp2_with fail
            refine (HF2.out wa (New.trans HWO.out hna)).mono ?_
            rintro e wb ⟨rfl, rfl⟩
            go_wp2_with fail
            refine (awake2_any _).mono ?_
            rintro e wz ⟨rfl, hnz⟩
            go_wp2_with fail
            go_ret
            exact ⟨rfl, New.trans HN2.out (New.trans HWO.out (New.trans hna hnz))⟩
    · obtain ⟨q, hq⟩ : ∃ q, low / S = q := ⟨_, rfl⟩
      have q3 : (low : Int) / S = q := by rw [← hq]; simp
      have q4 : 1 ≤ q := by rw [← hq]; exact Nat.div_pos (by omega) S0
      have e1 : ((q : Int) != 0) = true := bne_iff_ne.mpr (by omega)
      clear hq
      go_wp2_with fail
      go_ret
      exact ⟨rfl, HN2.out⟩
end Go.Proofs.Ytlmimlnflcfccaa
