/-
  Types that are read: a value type; a number, a count, as they are wanted.
-/
import Derived.Test.YtjagimlmclejeaaJ27
import Derived.Test.YtjagimlmclejeaaJ28
namespace Go.Proofs.Ytjagimlmclejeaa
open Go.RowKit Go.Proofs.Leb Go.Proofs.Own Go.Proofs.Cur
set_option maxRecDepth 100000
set_option maxHeartbeats 4000000

def NumV (n : Nat) : Value := .int .u32 (n : Nat)
theorem numI_ok {bs : List UInt8} {lim : Int} {S : Int → Nat → Prop} {p q n : Nat} (h : numI bs lim S p = .ok n q) : S (rest lim q) n ∧ n < 4294967296 ∧ (Inv bs.length lim p → Inv bs.length lim q) ∧ p < q ∧ q ≤ bs.length := by
  unfold numI at h
  cases hu : uintO bs lim S p with
  | up q er => rw [hu] at h; cases h
  | ok ds q' => rw [hu] at h; cases h; exact uintO_ok hu
theorem got_numI {C : Nat} {v : Value} {bs : List UInt8} {lim : Int} {S : Int → Nat → Prop} {p : Nat} {w : World} {e : Ending} {w' : World} (h : Got C v bs lim UintV (uintO bs lim S p) w e w') : Got C v bs lim NumV (numI bs lim S p) w e w' := by
  obtain ⟨hu, h⟩ := h
  unfold numI
  cases hx : uintO bs lim S p with
  | up q er => rw [hx] at h; exact ⟨hu, h⟩
  | ok ds q =>
    rw [hx] at h
    have := (uintO_ok hx).2.1
    refine ⟨hu, ?_, h.2⟩
    rw [h.1]
    unfold UintV NumV
    rw [Nat.mod_eq_of_lt this]
theorem UintI_any {w : World} {C : Nat} {v : Value} {bs : List UInt8} {p : Nat} {lim : Int} (h : Cur w C v bs p lim 0) (hi : Inv bs.length lim p) (Gw : Nat) (cw : Array Value) (hG : Enters Gw)
    (W : Int → List (Nat × Nat)) (hW : ∀ r' w1, Upd (· = C) w w1 → 0 ≤ r' → r' ≤ 1099511627776 → Wants Gw cw W r' w1) (hF : ∀ r, Few (W r)) (S : Int → Nat → Prop) (hS : ∀ r n, 0 ≤ r → r ≤ 1099511627776 → n < 4294967296 → (inW W r n ↔ S r n)) :
    Calls Try.prog 72 #[.pointer (some ⟨C, 0, none⟩), .func (.func Gw) #[] cw] w (Got C v bs lim NumV (numI bs lim S p) w) := by
  refine (Uint_any h hi Gw cw hG W hW hF).mono ?_
  intro e w' hg
  rw [uintO_congr hi hS] at hg
  exact got_numI hg
theorem UIdx_any {w : World} {C : Nat} {v : Value} {bs : List UInt8} {p : Nat} {lim : Int} (h : Cur w C v bs p lim 0) (hi : Inv bs.length lim p) (B : Nat) (s : Int × Int) (T : TypeId) (hb : Blk w B (.int .i64 s.1) (.int .i64 s.2) T) (hne : B ≠ C) :
    Calls Try.prog 72 #[.pointer (some ⟨C, 0, none⟩), .func (.func 83) #[] #[.pointer (some ⟨B, 0, none⟩)]] w (Got C v bs lim NumV (numI bs lim (idxS s) p) w) :=
  UintI_any h hi 83 #[.pointer (some ⟨B, 0, none⟩)] (fun _ _ => rfl) (idxW s) (fun r' w1 hu _ _ => Idx1_any B s r' w1 (hu.cell hb.c0 hne) (hu.cell hb.c1 hne)) (idx_few s) (idxS s) (fun r n _ _ hn => idx_in s r n hn)
theorem UCnt_any {w : World} {C : Nat} {v : Value} {bs : List UInt8} {p : Nat} {lim : Int} (h : Cur w C v bs p lim 0) (hi : Inv bs.length lim p) (A B : Nat) (i s : Int × Int) (T : TypeId) (hit : Span.item i.1 i.2) (hs : OkS s)
    (ha : Blk w A (.int .i64 i.1) (.int .i64 i.2) T) (hb : Blk w B (.int .i64 s.1) (.int .i64 s.2) T) (hna : A ≠ C) (hne : B ≠ C) :
    Calls Try.prog 72 #[.pointer (some ⟨C, 0, none⟩), .func (.func 84) #[] #[.pointer (some ⟨A, 0, none⟩), .pointer (some ⟨B, 0, none⟩)]] w (Got C v bs lim NumV (numI bs lim (cntS i s) p) w) :=
  UintI_any h hi 84 #[.pointer (some ⟨A, 0, none⟩), .pointer (some ⟨B, 0, none⟩)] (fun _ _ => rfl) (cntW i s)
    (fun r' w1 hu h0 h1 => List1_any A B i s r' w1 hit hs h0 h1 (hu.cell ha.c0 hna) (hu.cell ha.c1 hna) (hu.cell hb.c0 hne) (hu.cell hb.c1 hne)) (cnt_few i s) (cntS i s) (fun r n h0 h1 hn => cnt_in hit hs h0 h1 hn)

/-- a function that answers a span -/
def IsS (s : Int × Int) (w : World) (e : Ending) (w' : World) : Prop := e = .returned (.agg #[.int .i64 s.1, .int .i64 s.2]) ∧ New w w'
theorem wone_any (w : World) : Calls Try.prog 76 #[] w (IsS (1, 1) w) := by
  go_enter Try.func76, Try.ntmps76
  go_wp2_with fail
  exact ret_agg rfl Try.underlying66 rfl w.heap.size #[.int .i64 1, .int .i64 1] 66 (by kernel_rfl) rfl rfl (hp_new rfl) ⟨rfl, (Upd.refl _ _).alloc _⟩
theorem wnumber_any (w : World) : Calls Try.prog 70 #[] w (IsS (1, 5) w) := by
  go_enter Try.func70, Try.ntmps70
  go_wp2_with fail
  exact ret_agg rfl Try.underlying66 rfl w.heap.size #[.int .i64 1, .int .i64 5] 66 (by kernel_rfl) rfl rfl (hp_new rfl) ⟨rfl, (Upd.refl _ _).alloc _⟩
theorem wlist_any (w : World) : Calls Try.prog 56 #[] w (IsS (1, 1099511627776) w) := by
  go_enter Try.func56, Try.ntmps56
  go_wp2_with fail
  exact ret_agg rfl Try.underlying66 rfl w.heap.size #[.int .i64 1, .int .i64 1099511627776] 66 (by kernel_rfl) rfl rfl (hp_new rfl) ⟨rfl, (Upd.refl _ _).alloc _⟩
theorem andS_any (a b : Int × Int) (w : World) (h1 : 0 ≤ a.1) (h2 : a.1 ≤ 1000000000000000) (h3 : 0 ≤ b.1) (h4 : b.1 ≤ 1000000000000000) (h5 : 0 ≤ a.2) (h6 : 0 ≤ b.2) :
    Calls Try.prog 57 #[.agg #[.int .i64 a.1, .int .i64 a.2], .agg #[.int .i64 b.1, .int .i64 b.2]] w (IsS (andS a b) w) := and_any a.1 a.2 b.1 b.2 w h1 h2 h3 h4 h5 h6
theorem Index_any (s : Int × Int) (w : World) : Calls Try.prog 73 #[.agg #[.int .i64 s.1, .int .i64 s.2]] w
    (fun e w' => e = .returned (.func (.func 83) #[] #[.pointer (some ⟨w.heap.size, 0, none⟩)]) ∧ Blk w' w.heap.size (.int .i64 s.1) (.int .i64 s.2) 66 ∧ New w w') := by
  obtain ⟨s1, s2⟩ := s
  have hmf : ∀ (fn : Fn) (first cap : Array Value) (w : World), (Instr.makeFunc fn first cap).run Try.prog w = .ok (.func fn first cap) w := fun _ _ _ _ => rfl
  simp only
  go_enter Try.func73, Try.ntmps73
  go_wp2_with fail
  go_ret
  exact ⟨rfl, Blk.mk, (Upd.refl _ _).alloc _⟩
theorem List_any (i s : Int × Int) (w : World) : Calls Try.prog 75 #[.agg #[.int .i64 i.1, .int .i64 i.2], .agg #[.int .i64 s.1, .int .i64 s.2]] w
    (fun e w' => e = .returned (.func (.func 84) #[] #[.pointer (some ⟨w.heap.size, 0, none⟩), .pointer (some ⟨w.heap.size + 1, 0, none⟩)]) ∧ Blk w' w.heap.size (.int .i64 i.1) (.int .i64 i.2) 66 ∧
      Blk w' (w.heap.size + 1) (.int .i64 s.1) (.int .i64 s.2) 66 ∧ New w w') := by
  obtain ⟨s1, s2⟩ := s
  obtain ⟨i1, i2⟩ := i
  have hmf : ∀ (fn : Fn) (first cap : Array Value) (w : World), (Instr.makeFunc fn first cap).run Try.prog w = .ok (.func fn first cap) w := fun _ _ _ _ => rfl
  simp only
  go_enter Try.func75, Try.ntmps75
  go_wp2_with fail
  go_ret
  refine ⟨rfl, Blk.new Blk.mk ((Upd.refl _ _).alloc _), hp_new (by simp), ((Upd.refl _ _).alloc _).alloc _⟩

theorem ReadVal_1 (x : UInt8) (r : Int) (w : World) : Calls Try.prog 77 (#[cb x, .int .i64 r] ++ #[]) w (Yes (valV x.toNat = true) w) := by
  have HV := hid (fun w => vright_any x.toNat w)
  unfold cb
  generalize valV x.toNat = b at *
  show Calls Try.prog 77 #[.int .u8 x.toNat, .int .i64 r] w _
  go_enter Try.func77, Try.ntmps77
  go_wp2_with fail
  refine (HV.out _).mono ?_
  rintro e w' ⟨rfl, rfl⟩
  go_wp2_with fail
  go_ret
  exact ⟨b, rfl, Iff.rfl, Upd.refl _ _⟩
theorem ReadVal_any {w : World} {C : Nat} {v : Value} {bs : List UInt8} {p : Nat} {lim : Int} (h : Cur w C v bs p lim 0) (hi : Inv bs.length lim p) :
    Calls Try.prog 62 #[.pointer (some ⟨C, 0, none⟩)] w (Got C v bs lim cb (valO bs lim valV p) w) := by
  have HB := hid (Byte_any h hi 77 #[] (fun _ _ => rfl) (fun x _ => valV x.toNat = true) (fun hp w1 _ _ _ _ => ReadVal_1 bs[p] _ w1))
  have HE : Hid (valO bs lim valV p = byteO bs lim (fun x _ => valV x.toNat = true) p) := rfl
  rw [HE.out]
  clear hi h
  generalize byteO bs lim (fun x _ => valV x.toNat = true) p = O at *
  go_enter Try.func62, Try.ntmps62
  go_wp2_with fail
  refine HB.out.mono ?_
  rintro e w1 ⟨hu, hm⟩
  cases O with
  | up q er =>
    obtain ⟨rfl, hc⟩ := hm
    have HG := hid hc
    have HU := hid hu
    clear hc hu
    go_wp2_with fail
    exact ⟨rfl, HU.out, rfl, HG.out⟩
  | ok x q =>
    obtain ⟨rfl, hc⟩ := hm
    have HG := hid hc
    have HU := hid hu
    clear hc hu
    unfold cb
    go_wp2_with fail
    go_ret
    exact ⟨HU.out, rfl, HG.out⟩
end Go.Proofs.Ytjagimlmclejeaa

namespace Go.Proofs.Ytjagimlmclejeaa
open Go.RowKit Go.Proofs.Leb Go.Proofs.Own Go.Proofs.Cur
set_option maxRecDepth 100000
set_option maxHeartbeats 4000000

theorem valO_ok {bs : List UInt8} {lim : Int} {ok : Int → Bool} {p q : Nat} {x : UInt8} (h : valO bs lim ok p = .ok x q) : q = p + 1 ∧ p < bs.length ∧ ok x.toNat = true := by
  have := byteO_ok h
  exact ⟨this.1, this.2.1, this.2.2.2.2⟩
theorem seqO_inv {α : Type} {n : Nat} {lim : Int} {f : Nat → Nat → Out α} (hf : ∀ m p a q, Inv n lim p → f m p = .ok a q → Inv n lim q) : ∀ (m : Nat) (acc : List α) (p : Nat) {l : List α} {q : Nat}, Inv n lim p → seqO f m acc p = .ok l q → Inv n lim q
  | 0, acc, p, l, q, hi, h => by cases h; exact hi
  | m + 1, acc, p, l, q, hi, h => by
    unfold seqO at h
    cases hx : f m p with
    | up q' er => rw [hx] at h; cases h
    | ok a q' => rw [hx] at h; exact seqO_inv hf m _ q' (hf m p a q' hi hx) h
theorem valsO_inv {bs : List UInt8} {lim : Int} {s : Int × Int} {p q : Nat} {l : List UInt8} (hi : Inv bs.length lim p) (h : valsO bs lim s p = .ok l q) : Inv bs.length lim q := by
  unfold valsO at h
  cases hx : numI bs lim (cntS (1, 1) s) p with
  | up q' er => rw [hx] at h; cases h
  | ok n q' =>
    rw [hx] at h
    exact seqO_inv (fun m p a q hi h => byteO_inv' hi h) n [] q' ((numI_ok hx).2.2.1 hi) h
/-- a new row of types -/
def NewV (w : World) (w' : World) (l : List UInt8) (u : Value) : Prop := VBytes w' u l ∧ Fresh w u
structure VInv (C : Nat) (v : Value) (bs : List UInt8) (lim : Int) (O : Out (List UInt8)) (w : World) (n i q : Nat) (acc : List UInt8) (l : Value) (wr : World) : Prop where
  up : Upd (· = C) w wr
  cur : Cur wr C v bs q lim 0
  inv : Inv bs.length lim q
  row : VBytes wr l acc
  fr : Fresh w l
  len : acc.length = i
  le : i ≤ n
  li : i ≤ q
  st : seqO (fun _ => valO bs lim valV) (n - i) acc q = O
theorem readVals_any {w : World} {C : Nat} {v : Value} {bs : List UInt8} {p : Nat} {lim : Int} (h : Cur w C v bs p lim 0) (hi : Inv bs.length lim p) (s : Int × Int) (hs : OkS s) :
    Calls Try.prog 61 #[.pointer (some ⟨C, 0, none⟩), .agg #[.int .i64 s.1, .int .i64 s.2]] w (GotR C v bs lim (NewV w) (valsO bs lim s p) w) := by
  have HI := hid hi
  have H0 := hid h
  have hC := h.lt
  obtain ⟨O, hO⟩ : ∃ O, valsO bs lim s p = O := ⟨_, rfl⟩
  rw [hO]
  have HL := hid (fun w => List_any (1, 1) s w)
  have HCL : Hid (∀ W A B, New w W → Blk W A (.int .i64 1) (.int .i64 1) 66 → Blk W B (.int .i64 s.1) (.int .i64 s.2) 66 → w.heap.size ≤ A → w.heap.size ≤ B →
      Calls Try.prog 72 #[.pointer (some ⟨C, 0, none⟩), .func (.func 84) #[] #[.pointer (some ⟨A, 0, none⟩), .pointer (some ⟨B, 0, none⟩)]] W (Got C v bs lim NumV (numI bs lim (cntS (1, 1) s) p) W)) :=
    fun W A B hn ha hb h1 h2 => UCnt_any (h.new hn) hi A B (1, 1) s _ (by unfold Span.item Span.right; decide) hs ha hb (by omega) (by omega)
  have HONE := hid wone_any
  obtain ⟨s1, s2⟩ := s
  simp only at *
  have HZ : Hid (Blk (w.alloc (.cells #[.int .i64 s1, .int .i64 s2] 66)) w.heap.size (.int .i64 s1) (.int .i64 s2) 66) := Blk.mk
  have HN0 : Hid (New w (w.alloc (.cells #[.int .i64 s1, .int .i64 s2] 66))) := (Upd.refl _ _).alloc _
  obtain ⟨O1, hO1⟩ : ∃ O1, numI bs lim (cntS (1, 1) (s1, s2)) p = O1 := ⟨_, rfl⟩
  have HOO : Hid (O1.bind (fun n q => seqO (fun _ => valO bs lim valV) n [] q) = O) := by show _ = _; rw [← hO1, ← hO]; rfl
  have HOK : Hid (∀ n q, O1 = .ok n q → n < 4294967296 ∧ Inv bs.length lim q) := fun n q e => by
    rw [← hO1] at e
    have := numI_ok e
    exact ⟨this.2.1, this.2.2.1 HI.out⟩
  rw [hO1] at HCL
  unfold IsS at HONE
  clear hi h hO hO1 hs
  go_enter Try.func61, Try.ntmps61
  go_wp2_with fail
  generalize w.alloc (.cells #[.int .i64 s1, .int .i64 s2] 66) = w0 at *
  have hN : New w0 w0.drew := (Upd.refl _ _).drew
  have hn : Upd (· = C) w0 w0.drew := (Upd.refl _ _).drew
  have hBC : ¬ w.heap.size = C := by omega
  cases O1 with
  | up q er =>
    refine wp_region_held_drew (S := (Upd (· = C) w0)) (by kernel_rfl) (by first | exact hn | exact (Upd.refl _ _).drew | exact Upd.drew (by assumption)) (fun hn => ?_)
    generalize w0.drew = wd at *
    refine wpAnyH_take (i := 0) (oi := { dst := some 6, op := Op.move (Operand.tmp 0), type := 62, pos := "wtype.go:126", after := #[], guard := none }) (v := ?v1x1) rfl (by kernel_rfl) (by kernel_rfl) (by kernel_rfl) (fun _ _ _ h => h) (Or.inl ⟨by rfl, ?y1x1⟩) hn ?r1x1
    case y1x1 => (intro wS hS; (try go_simp); (try with_reducible rfl))
    try simp only [Act.put, List.setIfInBounds_toArray, List.set_cons_zero, List.set_cons_succ]
    refine wpAnyH_take (i := 2) (oi := { dst := some 8, op := Op.load 66 (Operand.tmp 3), type := 66, pos := "wtype.go:126", after := #[], guard := none }) (v := ?v1x2) rfl (by kernel_rfl) (by kernel_rfl) (by kernel_rfl) (fun _ _ _ h => h) (Or.inl ⟨by rfl, ?y1x2⟩) hn ?r1x2
    case y1x2 => (intro wS hS; have c0 := hS.cell HZ.out.c0 hBC; have c1 := hS.cell HZ.out.c1 hBC; (try go_simp); (try with_reducible rfl))
    try simp only [Act.put, List.setIfInBounds_toArray, List.set_cons_zero, List.set_cons_succ]
    refine wpAnyH_take (i := 5) (oi := { dst := some 11, op := Op.move (Operand.const (Value.int IntKind.u32 0)), type := 24, pos := "wtype.go:126", after := #[], guard := none }) (v := ?v1x3) rfl (by kernel_rfl) (by kernel_rfl) (by kernel_rfl) (fun _ _ _ h => h) (Or.inl ⟨by rfl, ?y1x3⟩) hn ?r1x3
    case y1x3 => (intro wS hS; (try go_simp); (try with_reducible rfl))
    try simp only [Act.put, List.setIfInBounds_toArray, List.set_cons_zero, List.set_cons_succ]
    refine wpAnyH_ready (rs := [1]) (by kernel_rfl) (by simp) ?_
    refine AllReadyH.cons (o := { dst := some 7, op := Op.call { callee := Callee.value (Operand.func 76), args := #[], argTypes := #[] }, type := 66, pos := "wtype.go:126", after := #[], guard := none }) rfl (fun K hK => ?_) AllReadyH.nil
    go_simp
    refine (HONE.out _).mono ?_
    rintro e wq ⟨rfl, hnq⟩
    go_wp2_with fail
    have hN := New.trans hN hnq
    have hn := New.upd (S := (· = C)) hN
    refine hK.out _ _ (by first | exact hn | exact Upd.alloc hn _) (fun hn => ?_)
    clear hK K
    try simp only [Act.put, List.setIfInBounds_toArray, List.set_cons_zero, List.set_cons_succ]
    refine wpAnyH_ready (rs := [3]) (by kernel_rfl) (by simp) ?_
    refine AllReadyH.cons (o := { dst := some 9, op := Op.call { callee := Callee.value (Operand.func 75), args := #[Operand.tmp 7, Operand.tmp 8], argTypes := #[66, 66] }, type := 104, pos := "wtype.go:126", after := #[{ on := 1, ground := Ground.data }, { on := 2, ground := Ground.data }, { on := 1, ground := Ground.chain }], guard := none }) rfl (fun K hK => ?_) AllReadyH.nil
    go_simp
    refine (HL.out _).mono ?_
    rintro e wr ⟨rfl, ha, hb, hnr⟩
    go_wp2_with fail
    have hsz := Upd.size (New.trans HN0.out hN)
    have hN := New.trans hN hnr
    have hn := New.upd (S := (· = C)) hN
    refine hK.out _ _ (by first | exact hn | exact Upd.alloc hn _) (fun hn => ?_)
    clear hK K
    try simp only [Act.put, List.setIfInBounds_toArray, List.set_cons_zero, List.set_cons_succ]
    refine wpAnyH_ready (rs := [4]) (by kernel_rfl) (by simp) ?_
    refine AllReadyH.cons (o := { dst := some 10, op := Op.call { callee := Callee.value (Operand.func 72), args := #[Operand.tmp 6, Operand.tmp 9], argTypes := #[62, 104] }, type := 24, pos := "wtype.go:126", after := #[{ on := 0, ground := Ground.data }, { on := 3, ground := Ground.data }, { on := 3, ground := Ground.chain }], guard := none }) rfl (fun K hK => ?_) AllReadyH.nil
    go_simp
    refine (HCL.out _ _ _ (New.trans HN0.out hN) ha hb (by omega) (by omega)).mono ?_
    rintro e wa ⟨hua, rfl, hca⟩
    have U := hid (new_upd (New.trans HN0.out hN) hua hC)
    have HC := hid hca
    clear hua hca ha hb hn hN
    go_wp2_with fail
    exact ⟨rfl, GotR.mk_up HOO.out.symm U.out rfl HC.out⟩
  | ok n q =>
    obtain ⟨hn32, hiq⟩ := HOK.out n q rfl
    have HIQ := hid hiq
    clear hiq
    refine wp_region_held_drew (S := (Upd (· = C) w0)) (by kernel_rfl) (by first | exact hn | exact (Upd.refl _ _).drew | exact Upd.drew (by assumption)) (fun hn => ?_)
    generalize w0.drew = wd at *
    refine wpAnyH_take (i := 0) (oi := { dst := some 6, op := Op.move (Operand.tmp 0), type := 62, pos := "wtype.go:126", after := #[], guard := none }) (v := ?v2x1) rfl (by kernel_rfl) (by kernel_rfl) (by kernel_rfl) (fun _ _ _ h => h) (Or.inl ⟨by rfl, ?y2x1⟩) hn ?r2x1
    case y2x1 => (intro wS hS; (try go_simp); (try with_reducible rfl))
    try simp only [Act.put, List.setIfInBounds_toArray, List.set_cons_zero, List.set_cons_succ]
    refine wpAnyH_take (i := 2) (oi := { dst := some 8, op := Op.load 66 (Operand.tmp 3), type := 66, pos := "wtype.go:126", after := #[], guard := none }) (v := ?v2x2) rfl (by kernel_rfl) (by kernel_rfl) (by kernel_rfl) (fun _ _ _ h => h) (Or.inl ⟨by rfl, ?y2x2⟩) hn ?r2x2
    case y2x2 => (intro wS hS; have c0 := hS.cell HZ.out.c0 hBC; have c1 := hS.cell HZ.out.c1 hBC; (try go_simp); (try with_reducible rfl))
    try simp only [Act.put, List.setIfInBounds_toArray, List.set_cons_zero, List.set_cons_succ]
    refine wpAnyH_take (i := 5) (oi := { dst := some 11, op := Op.move (Operand.const (Value.int IntKind.u32 0)), type := 24, pos := "wtype.go:126", after := #[], guard := none }) (v := ?v2x3) rfl (by kernel_rfl) (by kernel_rfl) (by kernel_rfl) (fun _ _ _ h => h) (Or.inl ⟨by rfl, ?y2x3⟩) hn ?r2x3
    case y2x3 => (intro wS hS; (try go_simp); (try with_reducible rfl))
    try simp only [Act.put, List.setIfInBounds_toArray, List.set_cons_zero, List.set_cons_succ]
    refine wpAnyH_ready (rs := [1]) (by kernel_rfl) (by simp) ?_
    refine AllReadyH.cons (o := { dst := some 7, op := Op.call { callee := Callee.value (Operand.func 76), args := #[], argTypes := #[] }, type := 66, pos := "wtype.go:126", after := #[], guard := none }) rfl (fun K hK => ?_) AllReadyH.nil
    go_simp
    refine (HONE.out _).mono ?_
    rintro e wq ⟨rfl, hnq⟩
    go_wp2_with fail
    have hN := New.trans hN hnq
    have hn := New.upd (S := (· = C)) hN
    refine hK.out _ _ (by first | exact hn | exact Upd.alloc hn _) (fun hn => ?_)
    clear hK K
    try simp only [Act.put, List.setIfInBounds_toArray, List.set_cons_zero, List.set_cons_succ]
    refine wpAnyH_ready (rs := [3]) (by kernel_rfl) (by simp) ?_
    refine AllReadyH.cons (o := { dst := some 9, op := Op.call { callee := Callee.value (Operand.func 75), args := #[Operand.tmp 7, Operand.tmp 8], argTypes := #[66, 66] }, type := 104, pos := "wtype.go:126", after := #[{ on := 1, ground := Ground.data }, { on := 2, ground := Ground.data }, { on := 1, ground := Ground.chain }], guard := none }) rfl (fun K hK => ?_) AllReadyH.nil
    go_simp
    refine (HL.out _).mono ?_
    rintro e wr ⟨rfl, ha, hb, hnr⟩
    go_wp2_with fail
    have hsz := Upd.size (New.trans HN0.out hN)
    have hN := New.trans hN hnr
    have hn := New.upd (S := (· = C)) hN
    refine hK.out _ _ (by first | exact hn | exact Upd.alloc hn _) (fun hn => ?_)
    clear hK K
    try simp only [Act.put, List.setIfInBounds_toArray, List.set_cons_zero, List.set_cons_succ]
    refine wpAnyH_ready (rs := [4]) (by kernel_rfl) (by simp) ?_
    refine AllReadyH.cons (o := { dst := some 10, op := Op.call { callee := Callee.value (Operand.func 72), args := #[Operand.tmp 6, Operand.tmp 9], argTypes := #[62, 104] }, type := 24, pos := "wtype.go:126", after := #[{ on := 0, ground := Ground.data }, { on := 3, ground := Ground.data }, { on := 3, ground := Ground.chain }], guard := none }) rfl (fun K hK => ?_) AllReadyH.nil
    go_simp
    refine (HCL.out _ _ _ (New.trans HN0.out hN) ha hb (by omega) (by omega)).mono ?_
    rintro e wa ⟨hua, rfl, hca⟩
    have U := hid (new_upd (New.trans HN0.out hN) hua hC)
    have HC := hid hca
    have hx := new_upd hN hua (Nat.lt_of_lt_of_le hC HN0.out.size)
    clear hua hca ha hb hn hN
    unfold NumV
    go_wp2_with fail
    have hn : Upd (· = C) w0 wa := hx
    refine hK.out _ _ (by first | exact hn | exact Upd.alloc hn _) (fun hn => ?_)
    clear hK K
    try simp only [Act.put, List.setIfInBounds_toArray, List.set_cons_zero, List.set_cons_succ]
    refine wpAnyH_done (by kernel_rfl) ?_ _
    go_wp2_with fail
    obtain ⟨O2, hO2⟩ : ∃ O2, seqO (fun _ => valO bs lim valV) n [] q = O2 := ⟨_, rfl⟩
    have HOO2 : Hid (O2 = O) := by show _ = _; rw [← hO2]; exact HOO.out
    have hne : ¬ ∃ k, (Value.slice none 0 0).ownBlock = some k := by rintro ⟨k, hk⟩; cases hk
    have i0 : VInv C v bs lim O2 w n 0 q [] (.slice none 0 0) wa := ⟨U.out, HC.out, HIQ.out, World.ownsRow_nil _ _ _ _, fun k hk => absurd ⟨k, hk⟩ hne, rfl, Nat.zero_le _, Nat.zero_le _, hO2⟩
    have I0 := hid i0
    clear i0 hO2 hne hx hn HC U HCL HL HONE HOO HOK
    go_loopg [5, 11] (n - 0) (fun k l c wr => ∃ i q acc, k = n - i ∧ c = .int .u32 (i : Nat) ∧ VInv C v bs lim O2 w n i q acc l wr)
    case atStart => exact ⟨0, q, [], rfl, rfl, I0.out⟩
    case round =>
      obtain ⟨i, q, acc, hk, rfl, ir⟩ := hrel
      have IR := hid ir
      have hle := ir.le
      have hli := ir.li
      have hp := ir.inv.place
      have hbl := ir.inv.len
      clear ir
      by_cases hi : i < n
      · have hd : decide (i < n) = true := decide_eq_true hi
        have HV := hid (ReadVal_any IR.out.cur IR.out.inv)
        obtain ⟨m, hm⟩ : ∃ m, n - i = m + 1 := ⟨n - i - 1, by omega⟩
        have hst := IR.out.st
        rw [hm] at hst
        unfold seqO at hst
        obtain ⟨x, hx⟩ : ∃ x, valO bs lim valV q = x := ⟨_, rfl⟩
        rw [hx] at hst HV
        have HX := hid hx
        have HST := hid hst
        clear hst hx
        obtain ⟨al, cl, rfl⟩ := IR.out.row.rd.shape
        cases x with
        | up q' er =>
          go_wp2_with fail
          refine HV.out.mono ?_
          rintro e w1 ⟨hu, rfl, hc⟩
          have HU := hid (IR.out.up.trans hu (fun _ _ h => h))
          have HC := hid hc
          clear hu hc
          go_wp2_with fail
          exact ⟨rfl, GotR.mk_up (HOO2.out.symm.trans HST.out.symm) HU.out rfl HC.out⟩
        | ok x q' =>
          obtain ⟨hq', hql, -⟩ := valO_ok HX.out
          go_wp2_with fail
          refine HV.out.mono ?_
          rintro e w1 ⟨hu, rfl, hc⟩
          have hfr := IR.out.fr
          have hrow := VBytes.upd IR.out.row hu (fun k hk e => by have := hfr k hk; omega)
          have HU := hid (IR.out.up.trans hu (fun _ _ h => h))
          have HC := hid hc
          have hl9 : acc.length ≤ 1000000000 := by have := IR.out.len; omega
          clear hu hc
          unfold cb
          go_wp2_with (at_builtin; refine hold ?_)
          refine appV (.tmp 13) (.tmp 16) x hrow hl9 rfl rfl rfl rfl ?_
          intro v' w2 hb2 ha2
          have HB2 := hid hb2
          have HF2 := hid (Fresh.adds hfr HU.out.size ha2)
          have ua := ha2.upd
          have HU2 := hid (HU.out.trans (ua.mono (T := fun k => w.heap.size ≤ k) (fun k _ hk => hfr k hk)) (fun k hk h => absurd hk (by omega)))
          have HC2 := hid (HC.out.upd ua (fun e => by have := hfr _ e; omega) (fun hb k hk hS => by have := hfr k hS; have := H0.out.rd.there hb k hk; omega))
          clear hb2 ha2 ua hrow hfr
          go_wp2_with fail
          go_roundg (n - (i + 1))
          case measure => omega
          case rel =>
            refine ⟨i + 1, q', acc ++ [x], rfl, by go_num, HU2.out, HC2.out, ?_, HB2.out, HF2.out, ?_, by omega, by omega, ?_⟩
            · exact byteO_inv' IR.out.inv HX.out
            · have := IR.out.len
              simp; omega
            · rw [show n - (i + 1) = m by omega]
              exact HST.out
      · have e : i = n := by omega
        subst e
        have hd : decide (i < i) = false := decide_eq_false hi
        have hst := IR.out.st
        rw [Nat.sub_self] at hst
        have HST := hid hst
        obtain ⟨al, cl, rfl⟩ := IR.out.row.rd.shape
        clear hst hi
        go_wp2_with fail
        go_ret
        exact GotR.mk_ok (HOO2.out.symm.trans HST.out.symm) IR.out.up rfl ⟨IR.out.row, IR.out.fr⟩ IR.out.cur
end Go.Proofs.Ytjagimlmclejeaa

namespace Go.Proofs.Ytjagimlmclejeaa
open Go.RowKit Go.Proofs.Leb Go.Proofs.Own Go.Proofs.Cur
set_option maxRecDepth 100000
set_option maxHeartbeats 4000000

theorem infoLm3 : (Try.prog.info? 37).map (·.size) = some 3 := by kernel_rfl
def IsB (b : Bool) (w : World) (e : Ending) (w' : World) : Prop := e = .returned (.bool b) ∧ New w w'
theorem hasS_any (s : Int × Int) (r : Int) (w : World) : Calls Try.prog 60 #[.agg #[.int .i64 s.1, .int .i64 s.2], .int .i64 r] w (IsB (Span.has s.1 s.2 r) w) := has_any s.1 s.2 r w
theorem lim1_any (x : UInt8) (r : Int) (B1 B2 : Nat) (s t : Int × Int) (T : TypeId) (w : World) (h1 : Blk w B1 (.int .i64 s.1) (.int .i64 s.2) T) (h2 : Blk w B2 (.int .i64 t.1) (.int .i64 t.2) T) :
    Calls Try.prog 71 (#[cb x, .int .i64 r] ++ #[.pointer (some ⟨B1, 0, none⟩), .pointer (some ⟨B2, 0, none⟩)]) w (Yes (x = 0 ∧ hasS s r ∨ x = 1 ∧ hasS t r) w) := by
  show Calls Try.prog 71 #[cb x, .int .i64 r, .pointer (some ⟨B1, 0, none⟩), .pointer (some ⟨B2, 0, none⟩)] w _
  unfold cb hasS
  have H1 := hid (fun w => hasS_any s r w)
  have H2 := hid (fun w => hasS_any t r w)
  unfold IsB at H1 H2
  have e0 : x = 0 ↔ x.toNat = 0 := ⟨fun h => by rw [h]; rfl, fun h => UInt8.toNat_inj.mp h⟩
  have e1 : x = 1 ↔ x.toNat = 1 := ⟨fun h => by rw [h]; rfl, fun h => UInt8.toNat_inj.mp h⟩
  rw [e0, e1]
  have a1 := h1.c0
  have a2 := h1.c1
  have b1 := h2.c0
  have b2 := h2.c1
  generalize Span.has s.1 s.2 r = p at *
  generalize Span.has t.1 t.2 r = q at *
  obtain ⟨s1, s2⟩ := s
  obtain ⟨t1, t2⟩ := t
  simp only at *
  have hx := u8_lt x
  generalize x.toNat = n at *
  clear e0 e1
  by_cases h0 : n = 0
  · subst h0
    cases p with
    | true =>
      go_enter Try.func71, Try.ntmps71
      go_wp2_with fail
      refine (H1.out _).mono ?_
      rintro e w1 ⟨rfl, hn⟩
      have HN := hid hn
      clear hn
      go_wp2_with fail
      go_ret
      exact ⟨true, rfl, by simp, HN.out⟩
    | false =>
      go_enter Try.func71, Try.ntmps71
      go_wp2_with fail
      refine (H1.out _).mono ?_
      rintro e w1 ⟨rfl, hn⟩
      have HN := hid hn
      clear hn
      go_wp2_with fail
      go_ret
      exact ⟨false, rfl, by simp, HN.out⟩
  · have d0 : ((n : Int) == 0) = false := by rw [beq_eq_false_iff_ne]; omega
    by_cases h1 : n = 1
    · subst h1
      go_enter Try.func71, Try.ntmps71
      go_wp2_with fail
      refine (H2.out _).mono ?_
      rintro e w1 ⟨rfl, hn⟩
      have HN := hid hn
      clear hn
      go_wp2_with fail
      go_ret
      exact ⟨q, rfl, by simp, HN.out⟩
    · have d1 : ((n : Int) == 1) = false := by rw [beq_eq_false_iff_ne]; omega
      have h0' := hid h0
      have h1' := hid h1
      clear h0 h1
      go_enter Try.func71, Try.ntmps71
      go_wp2_with fail
      go_ret
      refine ⟨false, rfl, ?_, Upd.refl _ _⟩
      have := h0'.out
      have := h1'.out
      simp [*]

def LimV (l : Bool × Nat × Nat) : Value := .agg #[.bool l.1, .int .u32 (l.2.1 : Nat), .int .u32 (l.2.2 : Nat)]
theorem readLimits_any {w : World} {C : Nat} {v : Value} {bs : List UInt8} {p : Nat} {lim : Int} (h : Cur w C v bs p lim 0) (hi : Inv bs.length lim p) (s : Int × Int) (hs0 : 0 ≤ s.1) (hs1 : s.1 ≤ 900000000000000) (hs2 : 0 ≤ s.2) :
    Calls Try.prog 48 #[.pointer (some ⟨C, 0, none⟩), .agg #[.int .i64 s.1, .int .i64 s.2]] w (Got C v bs lim LimV (limitsO bs lim s p) w) := by
  have HI := hid hi
  have H0 := hid h
  have hC := h.lt
  have HNUM := hid wnumber_any
  have HA1 := hid (fun w => andS_any (1, 5) s w (by decide) (by decide) hs0 (by omega) (by decide) hs2)
  have HA2 := hid (fun w => andS_any (1, 5) (andS (1, 5) s) w (by decide) (by decide) (by unfold andS; simp only; omega) (by unfold andS; simp only; omega) (by decide) (by unfold andS Span.most; simp only; split <;> omega))
  have HIX := hid (fun s w => Index_any s w)
  obtain ⟨t, ht⟩ : ∃ t, andS (1, 5) s = t := ⟨_, rfl⟩
  obtain ⟨u, hu⟩ : ∃ u, andS (1, 5) t = u := ⟨_, rfl⟩
  have HE : Hid (limitsO bs lim s p = (byteO bs lim (fun x r => x = 0 ∧ hasS t r ∨ x = 1 ∧ hasS u r) p).bind fun x q =>
      if x = 1 then (numI bs lim (idxS t) q).bind fun mn q => (numI bs lim (idxS s) q).bind fun mx q => .ok (true, mn, mx) q
      else (numI bs lim (idxS s) q).bind fun mn q => .ok (false, mn, 0) q) := by show _ = _; unfold limitsO; rw [ht, hu]
  rw [ht, hu] at HA2
  rw [ht] at HA1
  clear ht hu
  obtain ⟨O, hO⟩ : ∃ O, limitsO bs lim s p = O := ⟨_, rfl⟩
  rw [hO]
  have HO := hid (hO.symm.trans HE.out)
  have HBY : Hid (∀ W B1 B2, New w W → Blk W B1 (.int .i64 t.1) (.int .i64 t.2) 66 → Blk W B2 (.int .i64 u.1) (.int .i64 u.2) 66 → w.heap.size ≤ B1 → w.heap.size ≤ B2 →
      Calls Try.prog 58 #[.pointer (some ⟨C, 0, none⟩), .func (.func 71) #[] #[.pointer (some ⟨B1, 0, none⟩), .pointer (some ⟨B2, 0, none⟩)]] W (Got C v bs lim cb (byteO bs lim (fun x r => x = 0 ∧ hasS t r ∨ x = 1 ∧ hasS u r) p) W)) :=
    fun W B1 B2 hn k1 k2 g1 g2 => Byte_any (h.new hn) hi 71 #[.pointer (some ⟨B1, 0, none⟩), .pointer (some ⟨B2, 0, none⟩)] (fun _ _ => rfl) _
      (fun hp w1 hu _ _ _ => lim1_any bs[p] _ B1 B2 t u _ w1 ((hu.block B1 k1.lt (by omega)).trans k1) ((hu.block B2 k2.lt (by omega)).trans k2))
  have HUI : Hid (∀ (s : Int × Int) W B q, Cur W C v bs q lim 0 → Inv bs.length lim q → Blk W B (.int .i64 s.1) (.int .i64 s.2) 66 → w.heap.size ≤ B →
      Calls Try.prog 72 #[.pointer (some ⟨C, 0, none⟩), .func (.func 83) #[] #[.pointer (some ⟨B, 0, none⟩)]] W (Got C v bs lim NumV (numI bs lim (idxS s) q) W)) :=
    fun s W B q hc hi hb hB => UIdx_any hc hi B s _ hb (by omega)
  clear hO HE h hi hs0 hs1 hs2
  obtain ⟨s1, s2⟩ := s
  obtain ⟨t1, t2⟩ := t
  obtain ⟨u1, u2⟩ := u
  unfold IsS at HNUM HA1 HA2
  simp only at *
  have HZ : Hid (Blk ((w.alloc (.cells #[.int .i64 s1, .int .i64 s2] 66)).alloc (.cells #[.bool false, .int .u32 0, .int .u32 0] 37)) w.heap.size (.int .i64 s1) (.int .i64 s2) 66) := Blk.new Blk.mk ((Upd.refl _ _).alloc _)
  have HL : Hid (((w.alloc (.cells #[.int .i64 s1, .int .i64 s2] 66)).alloc (.cells #[.bool false, .int .u32 0, .int .u32 0] 37)).heap[w.heap.size + 1]? = some (.cells #[.bool false, .int .u32 0, .int .u32 0] 37)) := hp_new (by simp)
  have HN0 : Hid (New w ((w.alloc (.cells #[.int .i64 s1, .int .i64 s2] 66)).alloc (.cells #[.bool false, .int .u32 0, .int .u32 0] 37))) := ((Upd.refl _ _).alloc _).alloc _
  have hsz : ((w.alloc (.cells #[.int .i64 s1, .int .i64 s2] 66)).alloc (.cells #[.bool false, .int .u32 0, .int .u32 0] 37)).heap.size = w.heap.size + 2 := by simp
  have HSZ := hid hsz
  clear hsz
  go_enter Try.func48, Try.ntmps48
  go_wp2_with fail
  generalize (w.alloc (.cells #[.int .i64 s1, .int .i64 s2] 66)).alloc (.cells #[.bool false, .int .u32 0, .int .u32 0] 37) = w0 at *
  go_cut [5] (fun b wx => ∃ g, b = .pointer (some ⟨g, 0, none⟩) ∧ w.heap.size + 2 ≤ g ∧ New w0 wx ∧ Blk wx g (.int .i64 t1) (.int .i64 t2) 66)
  case first =>
    have hn : New w0 w0.drew := (Upd.refl _ _).drew
    refine wp_region_noPanic ?_
    refine wp_region_held_drew (S := (New w0)) (by kernel_rfl) (by first | exact hn | exact (Upd.refl _ _).drew | exact Upd.drew (by assumption)) (fun hn => ?_)
    generalize w0.drew = wd at *
    refine wpAnyH_take (i := 1) (oi := { dst := some 10, op := Op.load 66 (Operand.tmp 3), type := 66, pos := "wtype.go:143", after := #[], guard := none }) (v := ?v1x1) rfl (by kernel_rfl) (by kernel_rfl) (by kernel_rfl) (fun _ _ _ h => h) (Or.inl ⟨by rfl, ?y1x1⟩) hn ?r1x1
    case y1x1 => (intro wS hS; have c0 := hS.cell HZ.out.c0 (fun h => h); have c1 := hS.cell HZ.out.c1 (fun h => h); (try go_simp); (try with_reducible rfl))
    try simp only [Act.put, List.setIfInBounds_toArray, List.set_cons_zero, List.set_cons_succ]
    refine wpAnyH_ready (rs := [0, 3]) (by kernel_rfl) (by simp) ?_
    refine AllReadyH.cons (o := { dst := some 9, op := Op.call { callee := Callee.value (Operand.func 70), args := #[], argTypes := #[] }, type := 66, pos := "wtype.go:143", after := #[], guard := none }) rfl (fun K hK => ?_) ?_
    · skip
      go_simp
      refine (HNUM.out _).mono ?_
      rintro e wq ⟨rfl, hnq⟩
      go_wp2_with fail
      have hn := New.trans hn hnq
      (try have hz5 := hz5.new hnq)
      refine hK.out _ _ (by first | exact hn | exact Upd.alloc hn _) (fun hn => ?_)
      clear hK K
      try simp only [Act.put, List.setIfInBounds_toArray, List.set_cons_zero, List.set_cons_succ]
      refine wpAnyH_ready (rs := [2, 3]) (by kernel_rfl) (by simp) ?_
      refine AllReadyH.cons (o := { dst := some 11, op := Op.call { callee := Callee.value (Operand.func 57), args := #[Operand.tmp 9, Operand.tmp 10], argTypes := #[66, 66] }, type := 66, pos := "wtype.go:143", after := #[{ on := 0, ground := Ground.data }, { on := 1, ground := Ground.data }, { on := 0, ground := Ground.chain }], guard := none }) rfl (fun K hK => ?_) ?_
      · skip
        go_simp
        refine (HA1.out _).mono ?_
        rintro e wr ⟨rfl, hnq⟩
        go_wp2_with fail
        have hn := New.trans hn hnq
        (try have hz5 := hz5.new hnq)
        refine hK.out _ _ (by first | exact hn | exact Upd.alloc hn _) (fun hn => ?_)
        clear hK K
        try simp only [Act.put, List.setIfInBounds_toArray, List.set_cons_zero, List.set_cons_succ]
        refine wpAnyH_ready (rs := [3]) (by kernel_rfl) (by simp) ?_
        refine AllReadyH.cons (o := { dst := some 5, op := Op.alloc 66, type := 0, pos := "wtype.go:143", after := #[], guard := none }) rfl (fun K hK => ?_) AllReadyH.nil
        go_simp
        refine absN hn ?_ hn.size
        intro g5 hg5 hf5
        rw [hg5] at hf5 ⊢
        refine allocStep hn ?_
        intro W2 hu hn hz5
        rw [hg5] at hz5
        clear hg5 hu
        refine hK.out _ _ (by first | exact hn | exact Upd.alloc hn _) (fun hn => ?_)
        clear hK K
        try simp only [Act.put, List.setIfInBounds_toArray, List.set_cons_zero, List.set_cons_succ]
        refine wpAnyH_ready (rs := [4]) (by kernel_rfl) (by simp) ?_
        refine AllReadyH.cons (o := { dst := none, op := Op.store 66 (Operand.tmp 5) (Operand.tmp 11), type := 0, pos := "wtype.go:143", after := #[{ on := 3, ground := Ground.data }, { on := 2, ground := Ground.data }, { on := 2, ground := Ground.chain }, { on := 0, ground := Ground.phase }, { on := 1, ground := Ground.phase }, { on := 2, ground := Ground.phase }, { on := 3, ground := Ground.phase }], guard := none }) rfl (fun K hK => ?_) AllReadyH.nil
        have z0 := hz5.c0
        have z1 := hz5.c1
        have f0 := hz5.f 0
        have f1 := hz5.f 1
        go_simp
        refine storeStep hn hz5 hf5 ?_
        clear z0 z1 f0 f1
        intro W3 hn hz6 hO
        clear hO hz5
        refine hK.out _ _ (by first | exact hn | exact Upd.alloc hn _) (fun hn => ?_)
        clear hK K
        try simp only [Act.put, List.setIfInBounds_toArray, List.set_cons_zero, List.set_cons_succ]
        refine wpAnyH_done (by kernel_rfl) ?_ _
        refine NoPanic.normal ?_
        go_wp2_with fail
        go_meet
        exact ⟨g5, rfl, (by have := HSZ.out; omega), hn, hz6⟩
      refine AllReadyH.cons (o := { dst := some 5, op := Op.alloc 66, type := 0, pos := "wtype.go:143", after := #[], guard := none }) rfl (fun K hK => ?_) AllReadyH.nil
      go_simp
      refine absN hn ?_ hn.size
      intro g5 hg5 hf5
      rw [hg5] at hf5 ⊢
      refine allocStep hn ?_
      intro W2 hu hn hz5
      rw [hg5] at hz5
      clear hg5 hu
      refine hK.out _ _ (by first | exact hn | exact Upd.alloc hn _) (fun hn => ?_)
      clear hK K
      try simp only [Act.put, List.setIfInBounds_toArray, List.set_cons_zero, List.set_cons_succ]
      refine wpAnyH_ready (rs := [2]) (by kernel_rfl) (by simp) ?_
      refine AllReadyH.cons (o := { dst := some 11, op := Op.call { callee := Callee.value (Operand.func 57), args := #[Operand.tmp 9, Operand.tmp 10], argTypes := #[66, 66] }, type := 66, pos := "wtype.go:143", after := #[{ on := 0, ground := Ground.data }, { on := 1, ground := Ground.data }, { on := 0, ground := Ground.chain }], guard := none }) rfl (fun K hK => ?_) AllReadyH.nil
      go_simp
      refine (HA1.out _).mono ?_
      rintro e wr ⟨rfl, hnq⟩
      go_wp2_with fail
      have hn := New.trans hn hnq
      (try have hz5 := hz5.new hnq)
      refine hK.out _ _ (by first | exact hn | exact Upd.alloc hn _) (fun hn => ?_)
      clear hK K
      try simp only [Act.put, List.setIfInBounds_toArray, List.set_cons_zero, List.set_cons_succ]
      refine wpAnyH_ready (rs := [4]) (by kernel_rfl) (by simp) ?_
      refine AllReadyH.cons (o := { dst := none, op := Op.store 66 (Operand.tmp 5) (Operand.tmp 11), type := 0, pos := "wtype.go:143", after := #[{ on := 3, ground := Ground.data }, { on := 2, ground := Ground.data }, { on := 2, ground := Ground.chain }, { on := 0, ground := Ground.phase }, { on := 1, ground := Ground.phase }, { on := 2, ground := Ground.phase }, { on := 3, ground := Ground.phase }], guard := none }) rfl (fun K hK => ?_) AllReadyH.nil
      have z0 := hz5.c0
      have z1 := hz5.c1
      have f0 := hz5.f 0
      have f1 := hz5.f 1
      go_simp
      refine storeStep hn hz5 hf5 ?_
      clear z0 z1 f0 f1
      intro W3 hn hz6 hO
      clear hO hz5
      refine hK.out _ _ (by first | exact hn | exact Upd.alloc hn _) (fun hn => ?_)
      clear hK K
      try simp only [Act.put, List.setIfInBounds_toArray, List.set_cons_zero, List.set_cons_succ]
      refine wpAnyH_done (by kernel_rfl) ?_ _
      refine NoPanic.normal ?_
      go_wp2_with fail
      go_meet
      exact ⟨g5, rfl, (by have := HSZ.out; omega), hn, hz6⟩
    refine AllReadyH.cons (o := { dst := some 5, op := Op.alloc 66, type := 0, pos := "wtype.go:143", after := #[], guard := none }) rfl (fun K hK => ?_) AllReadyH.nil
    go_simp
    refine absN hn ?_ hn.size
    intro g5 hg5 hf5
    rw [hg5] at hf5 ⊢
    refine allocStep hn ?_
    intro W2 hu hn hz5
    rw [hg5] at hz5
    clear hg5 hu
    refine hK.out _ _ (by first | exact hn | exact Upd.alloc hn _) (fun hn => ?_)
    clear hK K
    try simp only [Act.put, List.setIfInBounds_toArray, List.set_cons_zero, List.set_cons_succ]
    refine wpAnyH_ready (rs := [0]) (by kernel_rfl) (by simp) ?_
    refine AllReadyH.cons (o := { dst := some 9, op := Op.call { callee := Callee.value (Operand.func 70), args := #[], argTypes := #[] }, type := 66, pos := "wtype.go:143", after := #[], guard := none }) rfl (fun K hK => ?_) AllReadyH.nil
    go_simp
    refine (HNUM.out _).mono ?_
    rintro e wq ⟨rfl, hnq⟩
    go_wp2_with fail
    have hn := New.trans hn hnq
    (try have hz5 := hz5.new hnq)
    refine hK.out _ _ (by first | exact hn | exact Upd.alloc hn _) (fun hn => ?_)
    clear hK K
    try simp only [Act.put, List.setIfInBounds_toArray, List.set_cons_zero, List.set_cons_succ]
    refine wpAnyH_ready (rs := [2]) (by kernel_rfl) (by simp) ?_
    refine AllReadyH.cons (o := { dst := some 11, op := Op.call { callee := Callee.value (Operand.func 57), args := #[Operand.tmp 9, Operand.tmp 10], argTypes := #[66, 66] }, type := 66, pos := "wtype.go:143", after := #[{ on := 0, ground := Ground.data }, { on := 1, ground := Ground.data }, { on := 0, ground := Ground.chain }], guard := none }) rfl (fun K hK => ?_) AllReadyH.nil
    go_simp
    refine (HA1.out _).mono ?_
    rintro e wr ⟨rfl, hnq⟩
    go_wp2_with fail
    have hn := New.trans hn hnq
    (try have hz5 := hz5.new hnq)
    refine hK.out _ _ (by first | exact hn | exact Upd.alloc hn _) (fun hn => ?_)
    clear hK K
    try simp only [Act.put, List.setIfInBounds_toArray, List.set_cons_zero, List.set_cons_succ]
    refine wpAnyH_ready (rs := [4]) (by kernel_rfl) (by simp) ?_
    refine AllReadyH.cons (o := { dst := none, op := Op.store 66 (Operand.tmp 5) (Operand.tmp 11), type := 0, pos := "wtype.go:143", after := #[{ on := 3, ground := Ground.data }, { on := 2, ground := Ground.data }, { on := 2, ground := Ground.chain }, { on := 0, ground := Ground.phase }, { on := 1, ground := Ground.phase }, { on := 2, ground := Ground.phase }, { on := 3, ground := Ground.phase }], guard := none }) rfl (fun K hK => ?_) AllReadyH.nil
    have z0 := hz5.c0
    have z1 := hz5.c1
    have f0 := hz5.f 0
    have f1 := hz5.f 1
    go_simp
    refine storeStep hn hz5 hf5 ?_
    clear z0 z1 f0 f1
    intro W3 hn hz6 hO
    clear hO hz5
    refine hK.out _ _ (by first | exact hn | exact Upd.alloc hn _) (fun hn => ?_)
    clear hK K
    try simp only [Act.put, List.setIfInBounds_toArray, List.set_cons_zero, List.set_cons_succ]
    refine wpAnyH_done (by kernel_rfl) ?_ _
    refine NoPanic.normal ?_
    go_wp2_with fail
    go_meet
    exact ⟨g5, rfl, (by have := HSZ.out; omega), hn, hz6⟩
  case rest =>
    obtain ⟨g5, rfl, hg5, hw, hz5⟩ := hcut
    obtain ⟨w1, rfl⟩ : ∃ w1, w1 = wc := ⟨_, rfl⟩
    have HN1 := hid hw
    have HZ5 := hid hz5
    clear hz5 hw
    go_wp2_with fail
    go_cut [6] (fun b wx => ∃ g, b = .pointer (some ⟨g, 0, none⟩) ∧ w.heap.size + 2 ≤ g ∧ New w1 wx ∧ Blk wx g (.int .i64 u1) (.int .i64 u2) 66)
    case first =>
      have hn : New w1 w1.drew := (Upd.refl _ _).drew
      refine wp_region_noPanic ?_
      refine wp_region_held_drew (S := (New w1)) (by kernel_rfl) (by first | exact hn | exact (Upd.refl _ _).drew | exact Upd.drew (by assumption)) (fun hn => ?_)
      generalize w1.drew = wd at *
      refine wpAnyH_take (i := 1) (oi := { dst := some 13, op := Op.load 66 (Operand.tmp 5), type := 66, pos := "wtype.go:144", after := #[], guard := none }) (v := ?v2x1) rfl (by kernel_rfl) (by kernel_rfl) (by kernel_rfl) (fun _ _ _ h => h) (Or.inl ⟨by rfl, ?y2x1⟩) hn ?r2x1
      case y2x1 => (intro wS hS; have c0 := hS.cell HZ5.out.c0 (fun h => h); have c1 := hS.cell HZ5.out.c1 (fun h => h); (try go_simp); (try with_reducible rfl))
      try simp only [Act.put, List.setIfInBounds_toArray, List.set_cons_zero, List.set_cons_succ]
      refine wpAnyH_ready (rs := [0, 3]) (by kernel_rfl) (by simp) ?_
      refine AllReadyH.cons (o := { dst := some 12, op := Op.call { callee := Callee.value (Operand.func 70), args := #[], argTypes := #[] }, type := 66, pos := "wtype.go:144", after := #[], guard := none }) rfl (fun K hK => ?_) ?_
      · skip
        go_simp
        refine (HNUM.out _).mono ?_
        rintro e wq ⟨rfl, hnq⟩
        go_wp2_with fail
        have hn := New.trans hn hnq
        (try have hz6 := hz6.new hnq)
        refine hK.out _ _ (by first | exact hn | exact Upd.alloc hn _) (fun hn => ?_)
        clear hK K
        try simp only [Act.put, List.setIfInBounds_toArray, List.set_cons_zero, List.set_cons_succ]
        refine wpAnyH_ready (rs := [2, 3]) (by kernel_rfl) (by simp) ?_
        refine AllReadyH.cons (o := { dst := some 14, op := Op.call { callee := Callee.value (Operand.func 57), args := #[Operand.tmp 12, Operand.tmp 13], argTypes := #[66, 66] }, type := 66, pos := "wtype.go:144", after := #[{ on := 0, ground := Ground.data }, { on := 1, ground := Ground.data }, { on := 0, ground := Ground.chain }], guard := none }) rfl (fun K hK => ?_) ?_
        · skip
          go_simp
          refine (HA2.out _).mono ?_
          rintro e wr ⟨rfl, hnq⟩
          go_wp2_with fail
          have hn := New.trans hn hnq
          (try have hz6 := hz6.new hnq)
          refine hK.out _ _ (by first | exact hn | exact Upd.alloc hn _) (fun hn => ?_)
          clear hK K
          try simp only [Act.put, List.setIfInBounds_toArray, List.set_cons_zero, List.set_cons_succ]
          refine wpAnyH_ready (rs := [3]) (by kernel_rfl) (by simp) ?_
          refine AllReadyH.cons (o := { dst := some 6, op := Op.alloc 66, type := 0, pos := "wtype.go:144", after := #[], guard := none }) rfl (fun K hK => ?_) AllReadyH.nil
          go_simp
          refine absN hn ?_ hn.size
          intro g6 hg6 hf6
          rw [hg6] at hf6 ⊢
          refine allocStep hn ?_
          intro W2 hu hn hz6
          rw [hg6] at hz6
          clear hg6 hu
          refine hK.out _ _ (by first | exact hn | exact Upd.alloc hn _) (fun hn => ?_)
          clear hK K
          try simp only [Act.put, List.setIfInBounds_toArray, List.set_cons_zero, List.set_cons_succ]
          refine wpAnyH_ready (rs := [4]) (by kernel_rfl) (by simp) ?_
          refine AllReadyH.cons (o := { dst := none, op := Op.store 66 (Operand.tmp 6) (Operand.tmp 14), type := 0, pos := "wtype.go:144", after := #[{ on := 3, ground := Ground.data }, { on := 2, ground := Ground.data }, { on := 2, ground := Ground.chain }, { on := 0, ground := Ground.phase }, { on := 1, ground := Ground.phase }, { on := 2, ground := Ground.phase }, { on := 3, ground := Ground.phase }], guard := none }) rfl (fun K hK => ?_) AllReadyH.nil
          have z0 := hz6.c0
          have z1 := hz6.c1
          have f0 := hz6.f 0
          have f1 := hz6.f 1
          go_simp
          refine storeStep hn hz6 hf6 ?_
          clear z0 z1 f0 f1
          intro W3 hn hz7 hO
          clear hO hz6
          refine hK.out _ _ (by first | exact hn | exact Upd.alloc hn _) (fun hn => ?_)
          clear hK K
          try simp only [Act.put, List.setIfInBounds_toArray, List.set_cons_zero, List.set_cons_succ]
          refine wpAnyH_done (by kernel_rfl) ?_ _
          refine NoPanic.normal ?_
          go_wp2_with fail
          go_meet
          exact ⟨g6, rfl, (by have := HSZ.out; have := HN1.out.size; omega), hn, hz7⟩
        refine AllReadyH.cons (o := { dst := some 6, op := Op.alloc 66, type := 0, pos := "wtype.go:144", after := #[], guard := none }) rfl (fun K hK => ?_) AllReadyH.nil
        go_simp
        refine absN hn ?_ hn.size
        intro g6 hg6 hf6
        rw [hg6] at hf6 ⊢
        refine allocStep hn ?_
        intro W2 hu hn hz6
        rw [hg6] at hz6
        clear hg6 hu
        refine hK.out _ _ (by first | exact hn | exact Upd.alloc hn _) (fun hn => ?_)
        clear hK K
        try simp only [Act.put, List.setIfInBounds_toArray, List.set_cons_zero, List.set_cons_succ]
        refine wpAnyH_ready (rs := [2]) (by kernel_rfl) (by simp) ?_
        refine AllReadyH.cons (o := { dst := some 14, op := Op.call { callee := Callee.value (Operand.func 57), args := #[Operand.tmp 12, Operand.tmp 13], argTypes := #[66, 66] }, type := 66, pos := "wtype.go:144", after := #[{ on := 0, ground := Ground.data }, { on := 1, ground := Ground.data }, { on := 0, ground := Ground.chain }], guard := none }) rfl (fun K hK => ?_) AllReadyH.nil
        go_simp
        refine (HA2.out _).mono ?_
        rintro e wr ⟨rfl, hnq⟩
        go_wp2_with fail
        have hn := New.trans hn hnq
        (try have hz6 := hz6.new hnq)
        refine hK.out _ _ (by first | exact hn | exact Upd.alloc hn _) (fun hn => ?_)
        clear hK K
        try simp only [Act.put, List.setIfInBounds_toArray, List.set_cons_zero, List.set_cons_succ]
        refine wpAnyH_ready (rs := [4]) (by kernel_rfl) (by simp) ?_
        refine AllReadyH.cons (o := { dst := none, op := Op.store 66 (Operand.tmp 6) (Operand.tmp 14), type := 0, pos := "wtype.go:144", after := #[{ on := 3, ground := Ground.data }, { on := 2, ground := Ground.data }, { on := 2, ground := Ground.chain }, { on := 0, ground := Ground.phase }, { on := 1, ground := Ground.phase }, { on := 2, ground := Ground.phase }, { on := 3, ground := Ground.phase }], guard := none }) rfl (fun K hK => ?_) AllReadyH.nil
        have z0 := hz6.c0
        have z1 := hz6.c1
        have f0 := hz6.f 0
        have f1 := hz6.f 1
        go_simp
        refine storeStep hn hz6 hf6 ?_
        clear z0 z1 f0 f1
        intro W3 hn hz7 hO
        clear hO hz6
        refine hK.out _ _ (by first | exact hn | exact Upd.alloc hn _) (fun hn => ?_)
        clear hK K
        try simp only [Act.put, List.setIfInBounds_toArray, List.set_cons_zero, List.set_cons_succ]
        refine wpAnyH_done (by kernel_rfl) ?_ _
        refine NoPanic.normal ?_
        go_wp2_with fail
        go_meet
        exact ⟨g6, rfl, (by have := HSZ.out; have := HN1.out.size; omega), hn, hz7⟩
      refine AllReadyH.cons (o := { dst := some 6, op := Op.alloc 66, type := 0, pos := "wtype.go:144", after := #[], guard := none }) rfl (fun K hK => ?_) AllReadyH.nil
      go_simp
      refine absN hn ?_ hn.size
      intro g6 hg6 hf6
      rw [hg6] at hf6 ⊢
      refine allocStep hn ?_
      intro W2 hu hn hz6
      rw [hg6] at hz6
      clear hg6 hu
      refine hK.out _ _ (by first | exact hn | exact Upd.alloc hn _) (fun hn => ?_)
      clear hK K
      try simp only [Act.put, List.setIfInBounds_toArray, List.set_cons_zero, List.set_cons_succ]
      refine wpAnyH_ready (rs := [0]) (by kernel_rfl) (by simp) ?_
      refine AllReadyH.cons (o := { dst := some 12, op := Op.call { callee := Callee.value (Operand.func 70), args := #[], argTypes := #[] }, type := 66, pos := "wtype.go:144", after := #[], guard := none }) rfl (fun K hK => ?_) AllReadyH.nil
      go_simp
      refine (HNUM.out _).mono ?_
      rintro e wq ⟨rfl, hnq⟩
      go_wp2_with fail
      have hn := New.trans hn hnq
      (try have hz6 := hz6.new hnq)
      refine hK.out _ _ (by first | exact hn | exact Upd.alloc hn _) (fun hn => ?_)
      clear hK K
      try simp only [Act.put, List.setIfInBounds_toArray, List.set_cons_zero, List.set_cons_succ]
      refine wpAnyH_ready (rs := [2]) (by kernel_rfl) (by simp) ?_
      refine AllReadyH.cons (o := { dst := some 14, op := Op.call { callee := Callee.value (Operand.func 57), args := #[Operand.tmp 12, Operand.tmp 13], argTypes := #[66, 66] }, type := 66, pos := "wtype.go:144", after := #[{ on := 0, ground := Ground.data }, { on := 1, ground := Ground.data }, { on := 0, ground := Ground.chain }], guard := none }) rfl (fun K hK => ?_) AllReadyH.nil
      go_simp
      refine (HA2.out _).mono ?_
      rintro e wr ⟨rfl, hnq⟩
      go_wp2_with fail
      have hn := New.trans hn hnq
      (try have hz6 := hz6.new hnq)
      refine hK.out _ _ (by first | exact hn | exact Upd.alloc hn _) (fun hn => ?_)
      clear hK K
      try simp only [Act.put, List.setIfInBounds_toArray, List.set_cons_zero, List.set_cons_succ]
      refine wpAnyH_ready (rs := [4]) (by kernel_rfl) (by simp) ?_
      refine AllReadyH.cons (o := { dst := none, op := Op.store 66 (Operand.tmp 6) (Operand.tmp 14), type := 0, pos := "wtype.go:144", after := #[{ on := 3, ground := Ground.data }, { on := 2, ground := Ground.data }, { on := 2, ground := Ground.chain }, { on := 0, ground := Ground.phase }, { on := 1, ground := Ground.phase }, { on := 2, ground := Ground.phase }, { on := 3, ground := Ground.phase }], guard := none }) rfl (fun K hK => ?_) AllReadyH.nil
      have z0 := hz6.c0
      have z1 := hz6.c1
      have f0 := hz6.f 0
      have f1 := hz6.f 1
      go_simp
      refine storeStep hn hz6 hf6 ?_
      clear z0 z1 f0 f1
      intro W3 hn hz7 hO
      clear hO hz6
      refine hK.out _ _ (by first | exact hn | exact Upd.alloc hn _) (fun hn => ?_)
      clear hK K
      try simp only [Act.put, List.setIfInBounds_toArray, List.set_cons_zero, List.set_cons_succ]
      refine wpAnyH_done (by kernel_rfl) ?_ _
      refine NoPanic.normal ?_
      go_wp2_with fail
      go_meet
      exact ⟨g6, rfl, (by have := HSZ.out; have := HN1.out.size; omega), hn, hz7⟩
    case rest =>
      obtain ⟨g6, rfl, hg6, hw, hz6⟩ := hcut
      obtain ⟨w2, rfl⟩ : ∃ w2, w2 = wc := ⟨_, rfl⟩
      have HN2 := hid (New.trans HN1.out hw)
      have HZ6 := hid hz6
      have HZ52 := hid (HZ5.out.new hw)
      clear hz6 hw HZ5
      have hmf : ∀ (fn : Fn) (first cap : Array Value) (w : World), (Instr.makeFunc fn first cap).run Try.prog w = .ok (.func fn first cap) w := fun _ _ _ _ => rfl
      have HB := hid (HBY.out w2 g5 g6 (New.trans HN0.out HN2.out) HZ52.out HZ6.out (by omega) (by omega))
      obtain ⟨O1, hO1⟩ : ∃ O1, byteO bs lim (fun x r => x = 0 ∧ hasS (t1, t2) r ∨ x = 1 ∧ hasS (u1, u2) r) p = O1 := ⟨_, rfl⟩
      rw [hO1] at HO HB
      have HO1 := hid hO1
      clear hO1 HBY HA1 HA2 HNUM
      go_wp2_with fail
      refine HB.out.mono ?_
      rintro e w3 ⟨hu3, hm⟩
      have HU3 := hid (new_upd (New.trans HN0.out HN2.out) hu3 hC)
      have HU03 := hid (new_upd HN2.out hu3 (Nat.lt_of_lt_of_le hC HN0.out.size))
      have HZ53 := hid (Blk_upd HZ52.out hu3 (by omega))
      clear hu3
      cases O1 with
      | up q er =>
        obtain ⟨rfl, hc⟩ := hm
        have HC := hid hc
        clear hc
        go_wp2_with fail
        exact ⟨rfl, Got.mk_up HO.out HU3.out rfl HC.out⟩
      | ok x q =>
        obtain ⟨rfl, hc⟩ := hm
        have HC := hid hc
        have HIQ := hid (byteO_inv' HI.out HO1.out)
        have HZ3 := hid (Blk_upd HZ.out HU03.out (by omega))
        have HL3 := hid ((HU03.out.block (w.heap.size + 1) (by have := HSZ.out; omega) (by omega)).trans HL.out)
        have e1 : x = 1 ↔ x.toNat = 1 := ⟨fun h => by rw [h]; rfl, fun h => UInt8.toNat_inj.mp h⟩
        clear hc
        by_cases hx : x = 1
        · have HO2 : Hid (O = (numI bs lim (idxS (t1, t2)) q).bind fun mn q => (numI bs lim (idxS (s1, s2)) q).bind fun mx q => .ok (true, mn, mx) q) := by
            show _ = _; rw [HO.out]; simp only [Out.bind, hx, if_true]
          subst hx
          clear e1 HO
          have HT3 := hid (HUI.out (t1, t2))
          have HS3 := hid (HUI.out (s1, s2))
          have c0 := HZ53.out.c0
          have c1 := HZ53.out.c1
          obtain ⟨O3, hO3⟩ : ∃ O3, numI bs lim (idxS (t1, t2)) q = O3 := ⟨_, rfl⟩
          rw [hO3] at HO2
          have HO3 := hid hO3
          clear hO3
          unfold cb
          go_wp2_with fail
          refine (HIX.out (t1, t2) _).mono ?_
          rintro e w4 ⟨rfl, hb4, hn4⟩
          have HUU := HT3.out w4 w3.heap.size q (HC.out.new hn4) HIQ.out hb4 (HU3.out.size)
          rw [HO3.out] at HUU
          have HU := hid HUU
          have HU4 := hid (HU3.out.thenNew hn4)
          have HL4 := hid (hp1 HL3.out hn4)
          have HZ4 := hid (HZ3.out.new hn4)
          clear HUU hb4 hn4 c0 c1
          go_wp2_with fail
          refine HU.out.mono ?_
          rintro e w5 ⟨hu5, hm⟩
          have HU5 := hid (HU4.out.trans hu5 (fun _ _ h => h))
          have HL5 := hid ((hu5.block _ (Array.getElem?_eq_some_iff.1 HL4.out).1 (by omega)).trans HL4.out)
          have HZ5' := hid (Blk_upd HZ4.out hu5 (by omega))
          clear hu5
          cases O3 with
          | up q' er =>
            obtain ⟨rfl, hc⟩ := hm
            have HC5 := hid hc
            clear hc
            go_wp2_with fail
            exact ⟨rfl, Got.mk_up HO2.out HU5.out rfl HC5.out⟩
          | ok n q' =>
            obtain ⟨rfl, hc⟩ := hm
            have HC5 := hid hc
            have HIQ' := hid ((numI_ok HO3.out).2.2.1 HIQ.out)
            obtain ⟨O4, hO4⟩ : ∃ O4, numI bs lim (idxS (s1, s2)) q' = O4 := ⟨_, rfl⟩
            have HO5 : Hid (O = O4.bind fun mx q => .ok (true, n, mx) q) := by show _ = _; rw [HO2.out, ← hO4]; rfl
            have HO4 := hid hO4
            have c0 := HZ5'.out.c0
            have c1 := HZ5'.out.c1
            clear hc hO4 HO2
            unfold NumV
            go_wp2_with fail
            refine (HIX.out (s1, s2) _).mono ?_
            rintro e w6 ⟨rfl, hb6, hn6⟩
            have HUU := HS3.out w6 w5.heap.size q' (HC5.out.new hn6) HIQ'.out hb6 (HU5.out.size)
            rw [HO4.out] at HUU
            have HU := hid HUU
            have HU6 := hid (HU5.out.thenNew hn6)
            have HL6 := hid (hp1 HL5.out hn6)
            clear HUU hb6 hn6 c0 c1
            go_wp2_with fail
            refine HU.out.mono ?_
            rintro e w7 ⟨hu7, hm⟩
            have HU7 := hid (HU6.out.trans hu7 (fun _ _ h => h))
            have HL7 := hid ((hu7.block _ (Array.getElem?_eq_some_iff.1 HL6.out).1 (by omega)).trans HL6.out)
            clear hu7
            cases O4 with
            | up q' er =>
              obtain ⟨rfl, hc⟩ := hm
              have HC7 := hid hc
              clear hc
              go_wp2_with fail
              exact ⟨rfl, Got.mk_up HO5.out HU7.out rfl HC7.out⟩
            | ok mx q' =>
              obtain ⟨rfl, hc⟩ := hm
              have HC7 := hid hc
              clear hc
              unfold NumV
              go_wp2_with (refine wpList_store_row rfl 37 _ _ rfl (w.heap.size + 1) #[.bool true, .int .u32 (n : Nat), .int .u32 (mx : Nat)] rfl rfl 37 _ HL7.out infoLm3 rfl (by simp [Value.oneCell']) ?_)
              obtain ⟨hus, hbs⟩ := run_setRow (cs := #[.bool true, .int .u32 (n : Nat), .int .u32 (mx : Nat)]) HL7.out
              go_wp2_with fail
              refine ret_agg rfl Try.underlying37 rfl (w.heap.size + 1) #[.bool true, .int .u32 (n : Nat), .int .u32 (mx : Nat)] 37 infoLm3 rfl rfl hbs ?_
              refine Got.mk_ok (a := (true, n, mx)) HO5.out (HU7.out.trans hus (T := fun k => k = w.heap.size + 1) (fun k hk h => by omega)) rfl ?_
              exact HC7.out.upd hus (by omega) (fun hb k hk e => by have := H0.out.rd.there hb k hk; omega)
        · have HO2 : Hid (O = (numI bs lim (idxS (s1, s2)) q).bind fun mn q => .ok (false, mn, 0) q) := by
            show _ = _; rw [HO.out]; simp only [Out.bind, hx, if_false]
          have hb : ((x.toNat : Int) == 1) = false := by rw [beq_eq_false_iff_ne]; intro h; exact hx (e1.2 (by omega))
          have HN3 := hid (HUI.out (s1, s2))
          have hxl := u8_lt x
          have c0 := HZ3.out.c0
          have c1 := HZ3.out.c1
          obtain ⟨O3, hO3⟩ : ∃ O3, numI bs lim (idxS (s1, s2)) q = O3 := ⟨_, rfl⟩
          rw [hO3] at HO2
          have HO3 := hid hO3
          clear e1 HO hx hO3
          unfold cb
          go_wp2_with fail
          refine (HIX.out (s1, s2) _).mono ?_
          rintro e w4 ⟨rfl, hb4, hn4⟩
          have HUU := HN3.out w4 w3.heap.size q (HC.out.new hn4) HIQ.out hb4 (HU3.out.size)
          rw [HO3.out] at HUU
          have HU := hid HUU
          have HU4 := hid (HU3.out.thenNew hn4)
          have HL4 := hid (hp1 HL3.out hn4)
          clear HUU hb4 hn4 c0 c1
          go_wp2_with fail
          refine HU.out.mono ?_
          rintro e w5 ⟨hu5, hm⟩
          have HU5 := hid (HU4.out.trans hu5 (fun _ _ h => h))
          have HL5 := hid ((hu5.block _ (Array.getElem?_eq_some_iff.1 HL4.out).1 (by omega)).trans HL4.out)
          clear hu5
          cases O3 with
          | up q' er =>
            obtain ⟨rfl, hc⟩ := hm
            have HC5 := hid hc
            clear hc
            go_wp2_with fail
            exact ⟨rfl, Got.mk_up HO2.out HU5.out rfl HC5.out⟩
          | ok n q' =>
            obtain ⟨rfl, hc⟩ := hm
            have HC5 := hid hc
            clear hc
            unfold NumV
            go_wp2_with (refine wpList_store_row rfl 37 _ _ rfl (w.heap.size + 1) #[.bool false, .int .u32 (n : Nat), .int .u32 0] rfl rfl 37 _ HL5.out infoLm3 rfl (by simp [Value.oneCell']) ?_)
            obtain ⟨hus, hbs⟩ := run_setRow (cs := #[.bool false, .int .u32 (n : Nat), .int .u32 0]) HL5.out
            go_wp2_with fail
            refine ret_agg rfl Try.underlying37 rfl (w.heap.size + 1) #[.bool false, .int .u32 (n : Nat), .int .u32 0] 37 infoLm3 rfl rfl hbs ?_
            refine Got.mk_ok (a := (false, n, 0)) HO2.out (HU5.out.trans hus (T := fun k => k = w.heap.size + 1) (fun k hk h => by omega)) rfl ?_
            exact HC5.out.upd hus (by omega) (fun hb k hk e => by have := H0.out.rd.there hb k hk; omega)
end Go.Proofs.Ytjagimlmclejeaa

namespace Go.Proofs.Ytjagimlmclejeaa
open Go.RowKit Go.Proofs.Leb Go.Proofs.Own Go.Proofs.Cur
set_option maxRecDepth 100000
set_option maxHeartbeats 4000000

theorem infoGt2 : (Try.prog.info? 44).map (·.size) = some 2 := by kernel_rfl
theorem u8_one (x : UInt8) : x = 1 ↔ x.toNat = 1 := ⟨fun h => by rw [h]; rfl, fun h => UInt8.toNat_inj.mp h⟩
theorem globO_inv {bs : List UInt8} {lim : Int} {p q : Nat} {g : UInt8 × Bool} (h : globO bs lim p = .ok g q) : p ≤ q ∧ q ≤ bs.length ∧ (Inv bs.length lim p → Inv bs.length lim q) := by
  unfold globO at h
  cases h1 : valO bs lim valV p with
  | up q' er => rw [h1] at h; cases h
  | ok t q' =>
    rw [h1] at h
    simp only [Out.bind] at h
    cases h2 : byteO bs lim (fun x _ => x.toNat < 2) q' with
    | up q' er => rw [h2] at h; cases h
    | ok m q'' =>
      rw [h2] at h
      cases h
      have a := byteO_ok h1
      have b := byteO_ok h2
      exact ⟨by omega, by omega, fun hi => byteO_inv' (byteO_inv' hi h1) h2⟩
theorem glob1_any (x : UInt8) (r : Int) (w : World) : Calls Try.prog 63 (#[cb x, .int .i64 r] ++ #[]) w (Yes (x.toNat < 2) w) := by
  show Calls Try.prog 63 #[cb x, .int .i64 r] w _
  unfold cb
  generalize x.toNat = n at *
  go_enter Try.func63, Try.ntmps63
  go_wp2_with fail
  go_ret
  refine ⟨_, rfl, ?_, Upd.refl _ _⟩
  simp
  try omega
def GlobV (g : UInt8 × Bool) : Value := .agg #[.int .u8 g.1.toNat, .bool g.2]
theorem readGlobal_any {w : World} {C : Nat} {v : Value} {bs : List UInt8} {p : Nat} {lim : Int} (h : Cur w C v bs p lim 0) (hi : Inv bs.length lim p) :
    Calls Try.prog 35 #[.pointer (some ⟨C, 0, none⟩)] w (Got C v bs lim GlobV (globO bs lim p) w) := by
  have HI := hid hi
  have H0 := hid h
  have hC := h.lt
  obtain ⟨O, hO⟩ : ∃ O, globO bs lim p = O := ⟨_, rfl⟩
  rw [hO]
  have HN0 : Hid (New w (w.alloc (.cells #[.int .u8 0, .bool false] 44))) := (Upd.refl _ _).alloc _
  have HL : Hid ((w.alloc (.cells #[.int .u8 0, .bool false] 44)).heap[w.heap.size]? = some (.cells #[.int .u8 0, .bool false] 44)) := hp_new rfl
  have HV := hid (ReadVal_any (h.new HN0.out) hi)
  obtain ⟨O1, hO1⟩ : ∃ O1, valO bs lim valV p = O1 := ⟨_, rfl⟩
  have HO : Hid (O = O1.bind fun t q => (byteO bs lim (fun x _ => x.toNat < 2) q).bind fun m q => .ok (t, decide (m = 1)) q) := by show _ = _; rw [← hO, ← hO1]; rfl
  rw [hO1] at HV
  have HO1 := hid hO1
  have HBY : Hid (∀ W q, Cur W C v bs q lim 0 → Inv bs.length lim q → Calls Try.prog 58 #[.pointer (some ⟨C, 0, none⟩), .func (.func 63) #[] #[]] W (Got C v bs lim cb (byteO bs lim (fun x _ => x.toNat < 2) q) W)) :=
    fun W q hc hi => Byte_any hc hi 63 #[] (fun _ _ => rfl) _ (fun hp w1 _ _ _ _ => glob1_any bs[q] _ w1)
  clear h hi hO hO1
  go_enter Try.func35, Try.ntmps35
  go_wp2_with fail
  generalize w.alloc (.cells #[.int .u8 0, .bool false] 44) = w0 at *
  refine HV.out.mono ?_
  rintro e w1 ⟨hu, hm⟩
  have HU1 := hid (new_upd HN0.out hu hC)
  have HL1 := hid ((hu.block _ (Array.getElem?_eq_some_iff.1 HL.out).1 (by omega)).trans HL.out)
  clear hu
  cases O1 with
  | up q er =>
    obtain ⟨rfl, hc⟩ := hm
    have HC := hid hc
    clear hc
    go_wp2_with fail
    exact ⟨rfl, Got.mk_up HO.out HU1.out rfl HC.out⟩
  | ok x q =>
    obtain ⟨rfl, hc⟩ := hm
    have HB := hid (HBY.out w1 q hc (byteO_inv' HI.out HO1.out))
    obtain ⟨O2, hO2⟩ : ∃ O2, byteO bs lim (fun x _ => x.toNat < 2) q = O2 := ⟨_, rfl⟩
    have HO2 : Hid (O = O2.bind fun m q => .ok (x, decide (m = 1)) q) := by show _ = _; rw [HO.out, ← hO2]; rfl
    rw [hO2] at HB
    clear hc HBY hO2 HO
    unfold cb
    go_wp2_with fail
    refine HB.out.mono ?_
    rintro e w2 ⟨hu, hm⟩
    have HU2 := hid (HU1.out.trans hu (fun _ _ h => h))
    have HL2 := hid ((hu.block _ (Array.getElem?_eq_some_iff.1 HL1.out).1 (by omega)).trans HL1.out)
    clear hu
    cases O2 with
    | up q' er =>
      obtain ⟨rfl, hc⟩ := hm
      have HC := hid hc
      clear hc
      go_wp2_with fail
      exact ⟨rfl, Got.mk_up HO2.out HU2.out rfl HC.out⟩
    | ok m q' =>
      obtain ⟨rfl, hc⟩ := hm
      have HC := hid hc
      have hm8 := u8_lt m
      obtain ⟨b, hb⟩ : ∃ b, decide (m = 1) = b := ⟨_, rfl⟩
      have hbn : (((m.toNat : Nat) : Int) == 1) = b := by
        rw [← hb]
        by_cases h : m = 1
        · rw [decide_eq_true h, h]; rfl
        · rw [decide_eq_false h, beq_eq_false_iff_ne]; intro e; exact h ((u8_one m).2 (by omega))
      have HO3 : Hid (O = .ok (x, b) q') := by show _ = _; rw [HO2.out, ← hb]; rfl
      clear hc hb
      unfold cb
      go_wp2_with (refine wpList_store_row rfl 44 _ _ rfl w.heap.size #[.int .u8 x.toNat, .bool b] rfl rfl 44 _ HL2.out infoGt2 rfl (by simp [Value.oneCell']) ?_)
      obtain ⟨hus, hbs⟩ := run_setRow (cs := #[.int .u8 x.toNat, .bool b]) HL2.out
      go_wp2_with fail
      refine ret_agg rfl Try.underlying44 rfl w.heap.size #[.int .u8 x.toNat, .bool b] 44 infoGt2 rfl rfl hbs ?_
      refine Got.mk_ok (a := (x, b)) HO3.out (HU2.out.trans hus (T := fun k => k = w.heap.size) (fun k hk h => by omega)) rfl ?_
      exact HC.out.upd hus (by omega) (fun hb k hk e => by have := H0.out.rd.there hb k hk; omega)

theorem tab1_any (x : UInt8) (r : Int) (B : Nat) (s : Int × Int) (T : TypeId) (w : World) (h1 : Blk w B (.int .i64 s.1) (.int .i64 s.2) T) :
    Calls Try.prog 64 (#[cb x, .int .i64 r] ++ #[.pointer (some ⟨B, 0, none⟩)]) w (Yes (refV x.toNat = true ∧ hasS s r) w) := by
  show Calls Try.prog 64 #[cb x, .int .i64 r, .pointer (some ⟨B, 0, none⟩)] w _
  unfold cb hasS
  have H1 := hid (fun w => hasS_any s r w)
  have HR := hid (fun w => vref_any x.toNat w)
  unfold IsB at H1
  have a1 := h1.c0
  have a2 := h1.c1
  generalize Span.has s.1 s.2 r = p at *
  obtain ⟨s1, s2⟩ := s
  simp only at *
  generalize refV x.toNat = q at *
  generalize x.toNat = n at *
  cases q with
  | true =>
    go_enter Try.func64, Try.ntmps64
    go_wp2_with fail
    refine (HR.out _).mono ?_
    rintro e w0 ⟨rfl, rfl⟩
    go_wp2_with fail
    refine (H1.out _).mono ?_
    rintro e w1 ⟨rfl, hn⟩
    have HN := hid hn
    clear hn
    go_wp2_with fail
    go_ret
    exact ⟨p, rfl, by simp, HN.out⟩
  | false =>
    go_enter Try.func64, Try.ntmps64
    go_wp2_with fail
    refine (HR.out _).mono ?_
    rintro e w0 ⟨rfl, rfl⟩
    go_wp2_with fail
    go_ret
    exact ⟨false, rfl, by simp, Upd.refl _ _⟩
def TabV (t : UInt8 × Bool × Nat × Nat) : Value := .agg #[.int .u8 t.1.toNat, .bool t.2.1, .int .u32 (t.2.2.1 : Nat), .int .u32 (t.2.2.2 : Nat)]
theorem readTable_any {w : World} {C : Nat} {v : Value} {bs : List UInt8} {p : Nat} {lim : Int} (h : Cur w C v bs p lim 0) (hi : Inv bs.length lim p) (s : Int × Int) (hs0 : 0 ≤ s.1) (hs1 : s.1 ≤ 900000000000000) (hs2 : 0 ≤ s.2) :
    Calls Try.prog 36 #[.pointer (some ⟨C, 0, none⟩), .agg #[.int .i64 s.1, .int .i64 s.2]] w (Got C v bs lim TabV (tableO bs lim s p) w) := by
  have HI := hid hi
  have H0 := hid h
  have hC := h.lt
  have HA1 := hid (fun w => andS_any (2, 11) s w (by decide) (by decide) hs0 (by omega) (by decide) hs2)
  have HLM := hid (fun W q (hc : Cur W C v bs q lim 0) (hi : Inv bs.length lim q) => readLimits_any hc hi s hs0 hs1 hs2)
  obtain ⟨t, ht⟩ : ∃ t, andS (2, 11) s = t := ⟨_, rfl⟩
  obtain ⟨O, hO⟩ : ∃ O, tableO bs lim s p = O := ⟨_, rfl⟩
  have HE : Hid (O = (byteO bs lim (fun x r => refV x.toNat = true ∧ hasS t r) p).bind fun e q => (limitsO bs lim s q).bind fun l q => .ok (e, l) q) := by show _ = _; rw [← hO, ← ht]; rfl
  rw [hO]
  rw [ht] at HA1
  clear ht hO
  have HBY : Hid (∀ W B, New w W → Blk W B (.int .i64 t.1) (.int .i64 t.2) 66 → w.heap.size ≤ B →
      Calls Try.prog 58 #[.pointer (some ⟨C, 0, none⟩), .func (.func 64) #[] #[.pointer (some ⟨B, 0, none⟩)]] W (Got C v bs lim cb (byteO bs lim (fun x r => refV x.toNat = true ∧ hasS t r) p) W)) :=
    fun W B hn k1 g1 => Byte_any (h.new hn) hi 64 #[.pointer (some ⟨B, 0, none⟩)] (fun _ _ => rfl) _
      (fun hp w1 hu _ _ _ => tab1_any bs[p] _ B t _ w1 (Blk_upd k1 hu (by omega)))
  clear h hi hs0 hs1 hs2
  obtain ⟨s1, s2⟩ := s
  obtain ⟨t1, t2⟩ := t
  unfold IsS at HA1
  simp only at *
  have HZ : Hid (Blk ((w.alloc (.cells #[.int .i64 s1, .int .i64 s2] 66)).alloc (.cells #[.int .u8 0, .bool false, .int .u32 0, .int .u32 0] 41)) w.heap.size (.int .i64 s1) (.int .i64 s2) 66) := Blk.new Blk.mk ((Upd.refl _ _).alloc _)
  have HL : Hid (((w.alloc (.cells #[.int .i64 s1, .int .i64 s2] 66)).alloc (.cells #[.int .u8 0, .bool false, .int .u32 0, .int .u32 0] 41)).heap[w.heap.size + 1]? = some (.cells #[.int .u8 0, .bool false, .int .u32 0, .int .u32 0] 41)) := hp_new (by simp)
  have HN0 : Hid (New w ((w.alloc (.cells #[.int .i64 s1, .int .i64 s2] 66)).alloc (.cells #[.int .u8 0, .bool false, .int .u32 0, .int .u32 0] 41))) := ((Upd.refl _ _).alloc _).alloc _
  have hsz : ((w.alloc (.cells #[.int .i64 s1, .int .i64 s2] 66)).alloc (.cells #[.int .u8 0, .bool false, .int .u32 0, .int .u32 0] 41)).heap.size = w.heap.size + 2 := by simp
  have HSZ := hid hsz
  clear hsz
  have hmf : ∀ (fn : Fn) (first cap : Array Value) (w : World), (Instr.makeFunc fn first cap).run Try.prog w = .ok (.func fn first cap) w := fun _ _ _ _ => rfl
  go_enter Try.func36, Try.ntmps36
  go_wp2_with fail
  generalize (w.alloc (.cells #[.int .i64 s1, .int .i64 s2] 66)).alloc (.cells #[.int .u8 0, .bool false, .int .u32 0, .int .u32 0] 41) = w0 at *
  have c0 := HZ.out.c0
  have c1 := HZ.out.c1
  go_wp2_with fail
  refine (HA1.out _).mono ?_
  rintro e w1 ⟨rfl, hn1⟩
  have HN1 := hid (New.trans HN0.out hn1)
  have HZ1 := hid (HZ.out.new hn1)
  have HL1 := hid (hp1 HL.out hn1)
  have hz5 : Blk (w1.alloc (.cells #[.int .i64 t1, .int .i64 t2] 66)) w1.heap.size (.int .i64 t1) (.int .i64 t2) 66 := Blk.mk
  have hn5 : New w1 (w1.alloc (.cells #[.int .i64 t1, .int .i64 t2] 66)) := (Upd.refl _ _).alloc _
  have HZ5 := hid hz5
  have HN5 := hid hn5
  clear hn1 c0 c1 hz5 hn5 HA1
  go_wp2_with fail
  generalize w1.alloc (.cells #[.int .i64 t1, .int .i64 t2] 66) = w2 at *
  have HB := hid (HBY.out w2 w1.heap.size (New.trans HN1.out HN5.out) HZ5.out (HN1.out.size))
  obtain ⟨O1, hO1⟩ : ∃ O1, byteO bs lim (fun x r => refV x.toNat = true ∧ hasS (t1, t2) r) p = O1 := ⟨_, rfl⟩
  rw [hO1] at HE HB
  have HO1 := hid hO1
  have HN2 := hid (New.trans HN1.out HN5.out)
  have HZ2 := hid (HZ1.out.new HN5.out)
  have HL2 := hid (hp1 HL1.out HN5.out)
  clear hO1 HBY
  refine HB.out.mono ?_
  rintro e w3 ⟨hu3, hm⟩
  have HU3 := hid (new_upd HN2.out hu3 hC)
  have HZ3 := hid (Blk_upd HZ2.out hu3 (by omega))
  have HL3 := hid ((hu3.block _ (Array.getElem?_eq_some_iff.1 HL2.out).1 (by omega)).trans HL2.out)
  clear hu3
  cases O1 with
  | up q er =>
    obtain ⟨rfl, hc⟩ := hm
    have HC := hid hc
    clear hc
    go_wp2_with fail
    exact ⟨rfl, Got.mk_up HE.out HU3.out rfl HC.out⟩
  | ok x q =>
    obtain ⟨rfl, hc⟩ := hm
    have HL := hid (HLM.out w3 q hc (byteO_inv' HI.out HO1.out))
    obtain ⟨O2, hO2⟩ : ∃ O2, limitsO bs lim (s1, s2) q = O2 := ⟨_, rfl⟩
    have HO2 : Hid (O = O2.bind fun l q => .ok (x, l) q) := by show _ = _; rw [HE.out, ← hO2]; rfl
    rw [hO2] at HL
    have c0 := HZ3.out.c0
    have c1 := HZ3.out.c1
    clear hc hO2 HE
    unfold cb
    go_wp2_with fail
    refine HL.out.mono ?_
    rintro e w5 ⟨hu5, hm⟩
    have HU5 := hid (HU3.out.trans hu5 (fun _ _ h => h))
    have HL5 := hid ((hu5.block _ (Array.getElem?_eq_some_iff.1 HL3.out).1 (by omega)).trans HL3.out)
    clear hu5 c0 c1
    cases O2 with
    | up q' er =>
      obtain ⟨rfl, hc⟩ := hm
      have HC5 := hid hc
      clear hc
      go_wp2_with fail
      exact ⟨rfl, Got.mk_up HO2.out HU5.out rfl HC5.out⟩
    | ok l q' =>
      obtain ⟨rfl, hc⟩ := hm
      have HC5 := hid hc
      obtain ⟨b, mn, mx⟩ := l
      clear hc
      unfold LimV
      simp only
      go_wp2_with (refine wpList_store_row rfl 41 _ _ rfl (w.heap.size + 1) #[.int .u8 x.toNat, .bool b, .int .u32 (mn : Nat), .int .u32 (mx : Nat)] rfl rfl 41 _ HL5.out infoTb4 rfl (by simp [Value.oneCell']) ?_)
      obtain ⟨hus, hbs⟩ := run_setRow (cs := #[.int .u8 x.toNat, .bool b, .int .u32 (mn : Nat), .int .u32 (mx : Nat)]) HL5.out
      go_wp2_with fail
      refine ret_agg rfl Try.underlying41 rfl (w.heap.size + 1) #[.int .u8 x.toNat, .bool b, .int .u32 (mn : Nat), .int .u32 (mx : Nat)] 41 infoTb4 rfl rfl hbs ?_
      refine Got.mk_ok (a := (x, b, mn, mx)) HO2.out (HU5.out.trans hus (T := fun k => k = w.heap.size + 1) (fun k hk h => by omega)) rfl ?_
      exact HC5.out.upd hus (by omega) (fun hb k hk e => by have := H0.out.rd.there hb k hk; omega)
end Go.Proofs.Ytjagimlmclejeaa

namespace Go.Proofs.Ytjagimlmclejeaa
open Go.RowKit Go.Proofs.Leb Go.Proofs.Own Go.Proofs.Cur
set_option maxRecDepth 100000
set_option maxHeartbeats 4000000

theorem fun1_any (x : UInt8) (r : Int) (B : Nat) (s : Int × Int) (T : TypeId) (w : World) (h1 : Blk w B (.int .i64 s.1) (.int .i64 s.2) T) :
    Calls Try.prog 59 (#[cb x, .int .i64 r] ++ #[.pointer (some ⟨B, 0, none⟩)]) w (Yes (x = 96 ∧ hasS s r) w) := by
  show Calls Try.prog 59 #[cb x, .int .i64 r, .pointer (some ⟨B, 0, none⟩)] w _
  unfold cb hasS
  have H1 := hid (fun w => hasS_any s r w)
  unfold IsB at H1
  have a1 := h1.c0
  have a2 := h1.c1
  have e1 : x = 96 ↔ x.toNat = 96 := ⟨fun h => by rw [h]; rfl, fun h => UInt8.toNat_inj.mp h⟩
  rw [e1]
  generalize Span.has s.1 s.2 r = p at *
  obtain ⟨s1, s2⟩ := s
  simp only at *
  have hx := u8_lt x
  generalize x.toNat = n at *
  clear e1
  by_cases h0 : n = 96
  · subst h0
    go_enter Try.func59, Try.ntmps59
    go_wp2_with fail
    refine (H1.out _).mono ?_
    rintro e w1 ⟨rfl, hn⟩
    have HN := hid hn
    clear hn
    go_wp2_with fail
    go_ret
    exact ⟨p, rfl, by simp, HN.out⟩
  · have d0 : ((n : Int) == 96) = false := by rw [beq_eq_false_iff_ne]; omega
    have h0' := hid h0
    clear h0
    go_enter Try.func59, Try.ntmps59
    go_wp2_with fail
    go_ret
    exact ⟨false, rfl, by simp [h0'.out], Upd.refl _ _⟩
/-- a function's type, made anew -/
def NewF (w : World) (w' : World) (f : List UInt8 × List UInt8) (u : Value) : Prop := ∃ u1 u2, u = .agg #[u1, u2] ∧ VBytes w' u1 f.1 ∧ Fresh w u1 ∧ VBytes w' u2 f.2 ∧ Fresh w u2
theorem readFunc_any {w : World} {C : Nat} {v : Value} {bs : List UInt8} {p : Nat} {lim : Int} (h : Cur w C v bs p lim 0) (hi : Inv bs.length lim p) (s : Int × Int) (hs : OkS s) (hs1 : s.1 ≤ 500000000000) :
    Calls Try.prog 34 #[.pointer (some ⟨C, 0, none⟩), .agg #[.int .i64 s.1, .int .i64 s.2]] w (GotR C v bs lim (NewF w) (funcO bs lim s p) w) := by
  have HI := hid hi
  have H0 := hid h
  have hC := h.lt
  obtain ⟨⟨hs0, hs01, -, hs3⟩, hs4⟩ := id hs
  have hs2 : 0 ≤ s.2 := by omega
  have hst : OkS (andS (1, 1099511627776) s) := hs.and (by decide) (by decide) (by simp only; omega) (by simp only; omega)
  have HLST := hid wlist_any
  have HA1 := hid (fun w => andS_any (1, 1099511627776) s w (by decide) (by decide) hs0 (by omega) (by decide) hs2)
  have HA2 := hid (fun w => andS_any (1, 1099511627776) (andS (1, 1099511627776) s) w (by decide) (by decide) hst.1.1 (by have := hst.1.2.2.1; omega) (by decide) (by have h1 := hst.1.1; have h2 := hst.1.2.1; omega))
  obtain ⟨t, ht⟩ : ∃ t, andS (1, 1099511627776) s = t := ⟨_, rfl⟩
  obtain ⟨u, hu⟩ : ∃ u, andS (1, 1099511627776) t = u := ⟨_, rfl⟩
  obtain ⟨O, hO⟩ : ∃ O, funcO bs lim s p = O := ⟨_, rfl⟩
  have HE : Hid (O = (byteO bs lim (fun x r => x = 96 ∧ hasS u r) p).bind fun _ q => (valsO bs lim t q).bind fun ps q => (valsO bs lim s q).bind fun rs q => .ok (ps, rs) q) := by show _ = _; rw [← hO, ← hu, ← ht]; rfl
  rw [hO]
  rw [ht, hu] at HA2
  rw [ht] at HA1 hst
  clear ht hu hO
  have HBY : Hid (∀ W B1, New w W → Blk W B1 (.int .i64 u.1) (.int .i64 u.2) 66 → w.heap.size ≤ B1 →
      Calls Try.prog 58 #[.pointer (some ⟨C, 0, none⟩), .func (.func 59) #[] #[.pointer (some ⟨B1, 0, none⟩)]] W (Got C v bs lim cb (byteO bs lim (fun x r => x = 96 ∧ hasS u r) p) W)) :=
    fun W B1 hn k1 g1 => Byte_any (h.new hn) hi 59 #[.pointer (some ⟨B1, 0, none⟩)] (fun _ _ => rfl) _
      (fun hp w1 hu _ _ _ => fun1_any bs[p] _ B1 u _ w1 (Blk_upd k1 hu (by omega)))
  have HRV : Hid (∀ W q, Cur W C v bs q lim 0 → Inv bs.length lim q → Calls Try.prog 61 #[.pointer (some ⟨C, 0, none⟩), .agg #[.int .i64 t.1, .int .i64 t.2]] W (GotR C v bs lim (NewV W) (valsO bs lim t q) W)) := fun W q hc hi => readVals_any hc hi t hst
  have HRW : Hid (∀ W q, Cur W C v bs q lim 0 → Inv bs.length lim q → Calls Try.prog 61 #[.pointer (some ⟨C, 0, none⟩), .agg #[.int .i64 s.1, .int .i64 s.2]] W (GotR C v bs lim (NewV W) (valsO bs lim s q) W)) := fun W q hc hi => readVals_any hc hi s hs
  clear h hi hs hs0 hs01 hs3 hs4 hs2 hst hs1
  obtain ⟨s1, s2⟩ := s
  obtain ⟨t1, t2⟩ := t
  obtain ⟨u1, u2⟩ := u
  unfold IsS at HLST HA1 HA2
  simp only at *
  have HZ : Hid (Blk ((w.alloc (.cells #[.int .i64 s1, .int .i64 s2] 66)).alloc (.cells #[.slice none 0 0, .slice none 0 0] 35)) w.heap.size (.int .i64 s1) (.int .i64 s2) 66) := Blk.new Blk.mk ((Upd.refl _ _).alloc _)
  have HL : Hid (((w.alloc (.cells #[.int .i64 s1, .int .i64 s2] 66)).alloc (.cells #[.slice none 0 0, .slice none 0 0] 35)).heap[w.heap.size + 1]? = some (.cells #[.slice none 0 0, .slice none 0 0] 35)) := hp_new (by simp)
  have HN0 : Hid (New w ((w.alloc (.cells #[.int .i64 s1, .int .i64 s2] 66)).alloc (.cells #[.slice none 0 0, .slice none 0 0] 35))) := ((Upd.refl _ _).alloc _).alloc _
  have hsz : ((w.alloc (.cells #[.int .i64 s1, .int .i64 s2] 66)).alloc (.cells #[.slice none 0 0, .slice none 0 0] 35)).heap.size = w.heap.size + 2 := by simp
  have HSZ := hid hsz
  clear hsz
  go_enter Try.func34, Try.ntmps34
  go_wp2_with fail
  generalize (w.alloc (.cells #[.int .i64 s1, .int .i64 s2] 66)).alloc (.cells #[.slice none 0 0, .slice none 0 0] 35) = w0 at *
  go_cut [5] (fun b wx => ∃ g, b = .pointer (some ⟨g, 0, none⟩) ∧ w.heap.size + 2 ≤ g ∧ New w0 wx ∧ Blk wx g (.int .i64 t1) (.int .i64 t2) 66)
  case first =>
    have hn : New w0 w0.drew := (Upd.refl _ _).drew
    refine wp_region_noPanic ?_
    refine wp_region_held_drew (S := (New w0)) (by kernel_rfl) (by first | exact hn | exact (Upd.refl _ _).drew | exact Upd.drew (by assumption)) (fun hn => ?_)
    generalize w0.drew = wd at *
    refine wpAnyH_take (i := 1) (oi := { dst := some 9, op := Op.load 66 (Operand.tmp 3), type := 66, pos := "wtype.go:134", after := #[], guard := none }) (v := ?v1x1) rfl (by kernel_rfl) (by kernel_rfl) (by kernel_rfl) (fun _ _ _ h => h) (Or.inl ⟨by rfl, ?y1x1⟩) hn ?r1x1
    case y1x1 => (intro wS hS; have c0 := hS.cell HZ.out.c0 (fun h => h); have c1 := hS.cell HZ.out.c1 (fun h => h); (try go_simp); (try with_reducible rfl))
    try simp only [Act.put, List.setIfInBounds_toArray, List.set_cons_zero, List.set_cons_succ]
    refine wpAnyH_ready (rs := [0, 3]) (by kernel_rfl) (by simp) ?_
    refine AllReadyH.cons (o := { dst := some 8, op := Op.call { callee := Callee.value (Operand.func 56), args := #[], argTypes := #[] }, type := 66, pos := "wtype.go:134", after := #[], guard := none }) rfl (fun K hK => ?_) ?_
    · skip
      go_simp
      refine (HLST.out _).mono ?_
      rintro e wq ⟨rfl, hnq⟩
      go_wp2_with fail
      have hn := New.trans hn hnq
      (try have hz5 := hz5.new hnq)
      refine hK.out _ _ (by first | exact hn | exact Upd.alloc hn _) (fun hn => ?_)
      clear hK K
      try simp only [Act.put, List.setIfInBounds_toArray, List.set_cons_zero, List.set_cons_succ]
      refine wpAnyH_ready (rs := [2, 3]) (by kernel_rfl) (by simp) ?_
      refine AllReadyH.cons (o := { dst := some 10, op := Op.call { callee := Callee.value (Operand.func 57), args := #[Operand.tmp 8, Operand.tmp 9], argTypes := #[66, 66] }, type := 66, pos := "wtype.go:134", after := #[{ on := 0, ground := Ground.data }, { on := 1, ground := Ground.data }, { on := 0, ground := Ground.chain }], guard := none }) rfl (fun K hK => ?_) ?_
      · skip
        go_simp
        refine (HA1.out _).mono ?_
        rintro e wr ⟨rfl, hnq⟩
        go_wp2_with fail
        have hn := New.trans hn hnq
        (try have hz5 := hz5.new hnq)
        refine hK.out _ _ (by first | exact hn | exact Upd.alloc hn _) (fun hn => ?_)
        clear hK K
        try simp only [Act.put, List.setIfInBounds_toArray, List.set_cons_zero, List.set_cons_succ]
        refine wpAnyH_ready (rs := [3]) (by kernel_rfl) (by simp) ?_
        refine AllReadyH.cons (o := { dst := some 5, op := Op.alloc 66, type := 0, pos := "wtype.go:134", after := #[], guard := none }) rfl (fun K hK => ?_) AllReadyH.nil
        go_simp
        refine absN hn ?_ hn.size
        intro g5 hg5 hf5
        rw [hg5] at hf5 ⊢
        refine allocStep hn ?_
        intro W2 hu hn hz5
        rw [hg5] at hz5
        clear hg5 hu
        refine hK.out _ _ (by first | exact hn | exact Upd.alloc hn _) (fun hn => ?_)
        clear hK K
        try simp only [Act.put, List.setIfInBounds_toArray, List.set_cons_zero, List.set_cons_succ]
        refine wpAnyH_ready (rs := [4]) (by kernel_rfl) (by simp) ?_
        refine AllReadyH.cons (o := { dst := none, op := Op.store 66 (Operand.tmp 5) (Operand.tmp 10), type := 0, pos := "wtype.go:134", after := #[{ on := 3, ground := Ground.data }, { on := 2, ground := Ground.data }, { on := 2, ground := Ground.chain }, { on := 0, ground := Ground.phase }, { on := 1, ground := Ground.phase }, { on := 2, ground := Ground.phase }, { on := 3, ground := Ground.phase }], guard := none }) rfl (fun K hK => ?_) AllReadyH.nil
        have z0 := hz5.c0
        have z1 := hz5.c1
        have f0 := hz5.f 0
        have f1 := hz5.f 1
        go_simp
        refine storeStep hn hz5 hf5 ?_
        clear z0 z1 f0 f1
        intro W3 hn hz6 hO
        clear hO hz5
        refine hK.out _ _ (by first | exact hn | exact Upd.alloc hn _) (fun hn => ?_)
        clear hK K
        try simp only [Act.put, List.setIfInBounds_toArray, List.set_cons_zero, List.set_cons_succ]
        refine wpAnyH_done (by kernel_rfl) ?_ _
        refine NoPanic.normal ?_
        go_wp2_with fail
        go_meet
        exact ⟨g5, rfl, (by have := HSZ.out; omega), hn, hz6⟩
      refine AllReadyH.cons (o := { dst := some 5, op := Op.alloc 66, type := 0, pos := "wtype.go:134", after := #[], guard := none }) rfl (fun K hK => ?_) AllReadyH.nil
      go_simp
      refine absN hn ?_ hn.size
      intro g5 hg5 hf5
      rw [hg5] at hf5 ⊢
      refine allocStep hn ?_
      intro W2 hu hn hz5
      rw [hg5] at hz5
      clear hg5 hu
      refine hK.out _ _ (by first | exact hn | exact Upd.alloc hn _) (fun hn => ?_)
      clear hK K
      try simp only [Act.put, List.setIfInBounds_toArray, List.set_cons_zero, List.set_cons_succ]
      refine wpAnyH_ready (rs := [2]) (by kernel_rfl) (by simp) ?_
      refine AllReadyH.cons (o := { dst := some 10, op := Op.call { callee := Callee.value (Operand.func 57), args := #[Operand.tmp 8, Operand.tmp 9], argTypes := #[66, 66] }, type := 66, pos := "wtype.go:134", after := #[{ on := 0, ground := Ground.data }, { on := 1, ground := Ground.data }, { on := 0, ground := Ground.chain }], guard := none }) rfl (fun K hK => ?_) AllReadyH.nil
      go_simp
      refine (HA1.out _).mono ?_
      rintro e wr ⟨rfl, hnq⟩
      go_wp2_with fail
      have hn := New.trans hn hnq
      (try have hz5 := hz5.new hnq)
      refine hK.out _ _ (by first | exact hn | exact Upd.alloc hn _) (fun hn => ?_)
      clear hK K
      try simp only [Act.put, List.setIfInBounds_toArray, List.set_cons_zero, List.set_cons_succ]
      refine wpAnyH_ready (rs := [4]) (by kernel_rfl) (by simp) ?_
      refine AllReadyH.cons (o := { dst := none, op := Op.store 66 (Operand.tmp 5) (Operand.tmp 10), type := 0, pos := "wtype.go:134", after := #[{ on := 3, ground := Ground.data }, { on := 2, ground := Ground.data }, { on := 2, ground := Ground.chain }, { on := 0, ground := Ground.phase }, { on := 1, ground := Ground.phase }, { on := 2, ground := Ground.phase }, { on := 3, ground := Ground.phase }], guard := none }) rfl (fun K hK => ?_) AllReadyH.nil
      have z0 := hz5.c0
      have z1 := hz5.c1
      have f0 := hz5.f 0
      have f1 := hz5.f 1
      go_simp
      refine storeStep hn hz5 hf5 ?_
      clear z0 z1 f0 f1
      intro W3 hn hz6 hO
      clear hO hz5
      refine hK.out _ _ (by first | exact hn | exact Upd.alloc hn _) (fun hn => ?_)
      clear hK K
      try simp only [Act.put, List.setIfInBounds_toArray, List.set_cons_zero, List.set_cons_succ]
      refine wpAnyH_done (by kernel_rfl) ?_ _
      refine NoPanic.normal ?_
      go_wp2_with fail
      go_meet
      exact ⟨g5, rfl, (by have := HSZ.out; omega), hn, hz6⟩
    refine AllReadyH.cons (o := { dst := some 5, op := Op.alloc 66, type := 0, pos := "wtype.go:134", after := #[], guard := none }) rfl (fun K hK => ?_) AllReadyH.nil
    go_simp
    refine absN hn ?_ hn.size
    intro g5 hg5 hf5
    rw [hg5] at hf5 ⊢
    refine allocStep hn ?_
    intro W2 hu hn hz5
    rw [hg5] at hz5
    clear hg5 hu
    refine hK.out _ _ (by first | exact hn | exact Upd.alloc hn _) (fun hn => ?_)
    clear hK K
    try simp only [Act.put, List.setIfInBounds_toArray, List.set_cons_zero, List.set_cons_succ]
    refine wpAnyH_ready (rs := [0]) (by kernel_rfl) (by simp) ?_
    refine AllReadyH.cons (o := { dst := some 8, op := Op.call { callee := Callee.value (Operand.func 56), args := #[], argTypes := #[] }, type := 66, pos := "wtype.go:134", after := #[], guard := none }) rfl (fun K hK => ?_) AllReadyH.nil
    go_simp
    refine (HLST.out _).mono ?_
    rintro e wq ⟨rfl, hnq⟩
    go_wp2_with fail
    have hn := New.trans hn hnq
    (try have hz5 := hz5.new hnq)
    refine hK.out _ _ (by first | exact hn | exact Upd.alloc hn _) (fun hn => ?_)
    clear hK K
    try simp only [Act.put, List.setIfInBounds_toArray, List.set_cons_zero, List.set_cons_succ]
    refine wpAnyH_ready (rs := [2]) (by kernel_rfl) (by simp) ?_
    refine AllReadyH.cons (o := { dst := some 10, op := Op.call { callee := Callee.value (Operand.func 57), args := #[Operand.tmp 8, Operand.tmp 9], argTypes := #[66, 66] }, type := 66, pos := "wtype.go:134", after := #[{ on := 0, ground := Ground.data }, { on := 1, ground := Ground.data }, { on := 0, ground := Ground.chain }], guard := none }) rfl (fun K hK => ?_) AllReadyH.nil
    go_simp
    refine (HA1.out _).mono ?_
    rintro e wr ⟨rfl, hnq⟩
    go_wp2_with fail
    have hn := New.trans hn hnq
    (try have hz5 := hz5.new hnq)
    refine hK.out _ _ (by first | exact hn | exact Upd.alloc hn _) (fun hn => ?_)
    clear hK K
    try simp only [Act.put, List.setIfInBounds_toArray, List.set_cons_zero, List.set_cons_succ]
    refine wpAnyH_ready (rs := [4]) (by kernel_rfl) (by simp) ?_
    refine AllReadyH.cons (o := { dst := none, op := Op.store 66 (Operand.tmp 5) (Operand.tmp 10), type := 0, pos := "wtype.go:134", after := #[{ on := 3, ground := Ground.data }, { on := 2, ground := Ground.data }, { on := 2, ground := Ground.chain }, { on := 0, ground := Ground.phase }, { on := 1, ground := Ground.phase }, { on := 2, ground := Ground.phase }, { on := 3, ground := Ground.phase }], guard := none }) rfl (fun K hK => ?_) AllReadyH.nil
    have z0 := hz5.c0
    have z1 := hz5.c1
    have f0 := hz5.f 0
    have f1 := hz5.f 1
    go_simp
    refine storeStep hn hz5 hf5 ?_
    clear z0 z1 f0 f1
    intro W3 hn hz6 hO
    clear hO hz5
    refine hK.out _ _ (by first | exact hn | exact Upd.alloc hn _) (fun hn => ?_)
    clear hK K
    try simp only [Act.put, List.setIfInBounds_toArray, List.set_cons_zero, List.set_cons_succ]
    refine wpAnyH_done (by kernel_rfl) ?_ _
    refine NoPanic.normal ?_
    go_wp2_with fail
    go_meet
    exact ⟨g5, rfl, (by have := HSZ.out; omega), hn, hz6⟩
  case rest =>
    obtain ⟨g5, rfl, hg5, hw, hz5⟩ := hcut
    obtain ⟨w1, rfl⟩ : ∃ w1, w1 = wc := ⟨_, rfl⟩
    have HN1 := hid hw
    have HZ5 := hid hz5
    clear hz5 hw
    go_wp2_with fail
    go_cut [6] (fun b wx => ∃ g, b = .pointer (some ⟨g, 0, none⟩) ∧ w.heap.size + 2 ≤ g ∧ New w1 wx ∧ Blk wx g (.int .i64 u1) (.int .i64 u2) 66)
    case first =>
      have hn : New w1 w1.drew := (Upd.refl _ _).drew
      refine wp_region_noPanic ?_
      refine wp_region_held_drew (S := (New w1)) (by kernel_rfl) (by first | exact hn | exact (Upd.refl _ _).drew | exact Upd.drew (by assumption)) (fun hn => ?_)
      generalize w1.drew = wd at *
      refine wpAnyH_take (i := 1) (oi := { dst := some 12, op := Op.load 66 (Operand.tmp 5), type := 66, pos := "wtype.go:135", after := #[], guard := none }) (v := ?v2x1) rfl (by kernel_rfl) (by kernel_rfl) (by kernel_rfl) (fun _ _ _ h => h) (Or.inl ⟨by rfl, ?y2x1⟩) hn ?r2x1
      case y2x1 => (intro wS hS; have c0 := hS.cell HZ5.out.c0 (fun h => h); have c1 := hS.cell HZ5.out.c1 (fun h => h); (try go_simp); (try with_reducible rfl))
      try simp only [Act.put, List.setIfInBounds_toArray, List.set_cons_zero, List.set_cons_succ]
      refine wpAnyH_ready (rs := [0, 3]) (by kernel_rfl) (by simp) ?_
      refine AllReadyH.cons (o := { dst := some 11, op := Op.call { callee := Callee.value (Operand.func 56), args := #[], argTypes := #[] }, type := 66, pos := "wtype.go:135", after := #[], guard := none }) rfl (fun K hK => ?_) ?_
      · skip
        go_simp
        refine (HLST.out _).mono ?_
        rintro e wq ⟨rfl, hnq⟩
        go_wp2_with fail
        have hn := New.trans hn hnq
        (try have hz6 := hz6.new hnq)
        refine hK.out _ _ (by first | exact hn | exact Upd.alloc hn _) (fun hn => ?_)
        clear hK K
        try simp only [Act.put, List.setIfInBounds_toArray, List.set_cons_zero, List.set_cons_succ]
        refine wpAnyH_ready (rs := [2, 3]) (by kernel_rfl) (by simp) ?_
        refine AllReadyH.cons (o := { dst := some 13, op := Op.call { callee := Callee.value (Operand.func 57), args := #[Operand.tmp 11, Operand.tmp 12], argTypes := #[66, 66] }, type := 66, pos := "wtype.go:135", after := #[{ on := 0, ground := Ground.data }, { on := 1, ground := Ground.data }, { on := 0, ground := Ground.chain }], guard := none }) rfl (fun K hK => ?_) ?_
        · skip
          go_simp
          refine (HA2.out _).mono ?_
          rintro e wr ⟨rfl, hnq⟩
          go_wp2_with fail
          have hn := New.trans hn hnq
          (try have hz6 := hz6.new hnq)
          refine hK.out _ _ (by first | exact hn | exact Upd.alloc hn _) (fun hn => ?_)
          clear hK K
          try simp only [Act.put, List.setIfInBounds_toArray, List.set_cons_zero, List.set_cons_succ]
          refine wpAnyH_ready (rs := [3]) (by kernel_rfl) (by simp) ?_
          refine AllReadyH.cons (o := { dst := some 6, op := Op.alloc 66, type := 0, pos := "wtype.go:135", after := #[], guard := none }) rfl (fun K hK => ?_) AllReadyH.nil
          go_simp
          refine absN hn ?_ hn.size
          intro g6 hg6 hf6
          rw [hg6] at hf6 ⊢
          refine allocStep hn ?_
          intro W2 hu hn hz6
          rw [hg6] at hz6
          clear hg6 hu
          refine hK.out _ _ (by first | exact hn | exact Upd.alloc hn _) (fun hn => ?_)
          clear hK K
          try simp only [Act.put, List.setIfInBounds_toArray, List.set_cons_zero, List.set_cons_succ]
          refine wpAnyH_ready (rs := [4]) (by kernel_rfl) (by simp) ?_
          refine AllReadyH.cons (o := { dst := none, op := Op.store 66 (Operand.tmp 6) (Operand.tmp 13), type := 0, pos := "wtype.go:135", after := #[{ on := 3, ground := Ground.data }, { on := 2, ground := Ground.data }, { on := 2, ground := Ground.chain }, { on := 0, ground := Ground.phase }, { on := 1, ground := Ground.phase }, { on := 2, ground := Ground.phase }, { on := 3, ground := Ground.phase }], guard := none }) rfl (fun K hK => ?_) AllReadyH.nil
          have z0 := hz6.c0
          have z1 := hz6.c1
          have f0 := hz6.f 0
          have f1 := hz6.f 1
          go_simp
          refine storeStep hn hz6 hf6 ?_
          clear z0 z1 f0 f1
          intro W3 hn hz7 hO
          clear hO hz6
          refine hK.out _ _ (by first | exact hn | exact Upd.alloc hn _) (fun hn => ?_)
          clear hK K
          try simp only [Act.put, List.setIfInBounds_toArray, List.set_cons_zero, List.set_cons_succ]
          refine wpAnyH_done (by kernel_rfl) ?_ _
          refine NoPanic.normal ?_
          go_wp2_with fail
          go_meet
          exact ⟨g6, rfl, (by have := HSZ.out; have := HN1.out.size; omega), hn, hz7⟩
        refine AllReadyH.cons (o := { dst := some 6, op := Op.alloc 66, type := 0, pos := "wtype.go:135", after := #[], guard := none }) rfl (fun K hK => ?_) AllReadyH.nil
        go_simp
        refine absN hn ?_ hn.size
        intro g6 hg6 hf6
        rw [hg6] at hf6 ⊢
        refine allocStep hn ?_
        intro W2 hu hn hz6
        rw [hg6] at hz6
        clear hg6 hu
        refine hK.out _ _ (by first | exact hn | exact Upd.alloc hn _) (fun hn => ?_)
        clear hK K
        try simp only [Act.put, List.setIfInBounds_toArray, List.set_cons_zero, List.set_cons_succ]
        refine wpAnyH_ready (rs := [2]) (by kernel_rfl) (by simp) ?_
        refine AllReadyH.cons (o := { dst := some 13, op := Op.call { callee := Callee.value (Operand.func 57), args := #[Operand.tmp 11, Operand.tmp 12], argTypes := #[66, 66] }, type := 66, pos := "wtype.go:135", after := #[{ on := 0, ground := Ground.data }, { on := 1, ground := Ground.data }, { on := 0, ground := Ground.chain }], guard := none }) rfl (fun K hK => ?_) AllReadyH.nil
        go_simp
        refine (HA2.out _).mono ?_
        rintro e wr ⟨rfl, hnq⟩
        go_wp2_with fail
        have hn := New.trans hn hnq
        (try have hz6 := hz6.new hnq)
        refine hK.out _ _ (by first | exact hn | exact Upd.alloc hn _) (fun hn => ?_)
        clear hK K
        try simp only [Act.put, List.setIfInBounds_toArray, List.set_cons_zero, List.set_cons_succ]
        refine wpAnyH_ready (rs := [4]) (by kernel_rfl) (by simp) ?_
        refine AllReadyH.cons (o := { dst := none, op := Op.store 66 (Operand.tmp 6) (Operand.tmp 13), type := 0, pos := "wtype.go:135", after := #[{ on := 3, ground := Ground.data }, { on := 2, ground := Ground.data }, { on := 2, ground := Ground.chain }, { on := 0, ground := Ground.phase }, { on := 1, ground := Ground.phase }, { on := 2, ground := Ground.phase }, { on := 3, ground := Ground.phase }], guard := none }) rfl (fun K hK => ?_) AllReadyH.nil
        have z0 := hz6.c0
        have z1 := hz6.c1
        have f0 := hz6.f 0
        have f1 := hz6.f 1
        go_simp
        refine storeStep hn hz6 hf6 ?_
        clear z0 z1 f0 f1
        intro W3 hn hz7 hO
        clear hO hz6
        refine hK.out _ _ (by first | exact hn | exact Upd.alloc hn _) (fun hn => ?_)
        clear hK K
        try simp only [Act.put, List.setIfInBounds_toArray, List.set_cons_zero, List.set_cons_succ]
        refine wpAnyH_done (by kernel_rfl) ?_ _
        refine NoPanic.normal ?_
        go_wp2_with fail
        go_meet
        exact ⟨g6, rfl, (by have := HSZ.out; have := HN1.out.size; omega), hn, hz7⟩
      refine AllReadyH.cons (o := { dst := some 6, op := Op.alloc 66, type := 0, pos := "wtype.go:135", after := #[], guard := none }) rfl (fun K hK => ?_) AllReadyH.nil
      go_simp
      refine absN hn ?_ hn.size
      intro g6 hg6 hf6
      rw [hg6] at hf6 ⊢
      refine allocStep hn ?_
      intro W2 hu hn hz6
      rw [hg6] at hz6
      clear hg6 hu
      refine hK.out _ _ (by first | exact hn | exact Upd.alloc hn _) (fun hn => ?_)
      clear hK K
      try simp only [Act.put, List.setIfInBounds_toArray, List.set_cons_zero, List.set_cons_succ]
      refine wpAnyH_ready (rs := [0]) (by kernel_rfl) (by simp) ?_
      refine AllReadyH.cons (o := { dst := some 11, op := Op.call { callee := Callee.value (Operand.func 56), args := #[], argTypes := #[] }, type := 66, pos := "wtype.go:135", after := #[], guard := none }) rfl (fun K hK => ?_) AllReadyH.nil
      go_simp
      refine (HLST.out _).mono ?_
      rintro e wq ⟨rfl, hnq⟩
      go_wp2_with fail
      have hn := New.trans hn hnq
      (try have hz6 := hz6.new hnq)
      refine hK.out _ _ (by first | exact hn | exact Upd.alloc hn _) (fun hn => ?_)
      clear hK K
      try simp only [Act.put, List.setIfInBounds_toArray, List.set_cons_zero, List.set_cons_succ]
      refine wpAnyH_ready (rs := [2]) (by kernel_rfl) (by simp) ?_
      refine AllReadyH.cons (o := { dst := some 13, op := Op.call { callee := Callee.value (Operand.func 57), args := #[Operand.tmp 11, Operand.tmp 12], argTypes := #[66, 66] }, type := 66, pos := "wtype.go:135", after := #[{ on := 0, ground := Ground.data }, { on := 1, ground := Ground.data }, { on := 0, ground := Ground.chain }], guard := none }) rfl (fun K hK => ?_) AllReadyH.nil
      go_simp
      refine (HA2.out _).mono ?_
      rintro e wr ⟨rfl, hnq⟩
      go_wp2_with fail
      have hn := New.trans hn hnq
      (try have hz6 := hz6.new hnq)
      refine hK.out _ _ (by first | exact hn | exact Upd.alloc hn _) (fun hn => ?_)
      clear hK K
      try simp only [Act.put, List.setIfInBounds_toArray, List.set_cons_zero, List.set_cons_succ]
      refine wpAnyH_ready (rs := [4]) (by kernel_rfl) (by simp) ?_
      refine AllReadyH.cons (o := { dst := none, op := Op.store 66 (Operand.tmp 6) (Operand.tmp 13), type := 0, pos := "wtype.go:135", after := #[{ on := 3, ground := Ground.data }, { on := 2, ground := Ground.data }, { on := 2, ground := Ground.chain }, { on := 0, ground := Ground.phase }, { on := 1, ground := Ground.phase }, { on := 2, ground := Ground.phase }, { on := 3, ground := Ground.phase }], guard := none }) rfl (fun K hK => ?_) AllReadyH.nil
      have z0 := hz6.c0
      have z1 := hz6.c1
      have f0 := hz6.f 0
      have f1 := hz6.f 1
      go_simp
      refine storeStep hn hz6 hf6 ?_
      clear z0 z1 f0 f1
      intro W3 hn hz7 hO
      clear hO hz6
      refine hK.out _ _ (by first | exact hn | exact Upd.alloc hn _) (fun hn => ?_)
      clear hK K
      try simp only [Act.put, List.setIfInBounds_toArray, List.set_cons_zero, List.set_cons_succ]
      refine wpAnyH_done (by kernel_rfl) ?_ _
      refine NoPanic.normal ?_
      go_wp2_with fail
      go_meet
      exact ⟨g6, rfl, (by have := HSZ.out; have := HN1.out.size; omega), hn, hz7⟩
    case rest =>
      obtain ⟨g6, rfl, hg6, hw, hz6⟩ := hcut
      obtain ⟨w2, rfl⟩ : ∃ w2, w2 = wc := ⟨_, rfl⟩
      have HN2 := hid (New.trans HN0.out (New.trans HN1.out hw))
      have HZ6 := hid hz6
      have HZ52 := hid (HZ5.out.new hw)
      have HZ2 := hid (HZ.out.new (New.trans HN1.out hw))
      have HL2 := hid (hp1 HL.out (New.trans HN1.out hw))
      clear hz6 hw HZ5
      have hmf : ∀ (fn : Fn) (first cap : Array Value) (w : World), (Instr.makeFunc fn first cap).run Try.prog w = .ok (.func fn first cap) w := fun _ _ _ _ => rfl
      have HB := hid (HBY.out w2 g6 HN2.out HZ6.out (by omega))
      obtain ⟨O1, hO1⟩ : ∃ O1, byteO bs lim (fun x r => x = 96 ∧ hasS (u1, u2) r) p = O1 := ⟨_, rfl⟩
      rw [hO1] at HE HB
      have HO1 := hid hO1
      clear hO1 HBY HA1 HA2 HLST
      go_wp2_with fail
      refine HB.out.mono ?_
      rintro e w3 ⟨hu3, hm⟩
      have HU3 := hid (new_upd HN2.out hu3 hC)
      have HZ53 := hid (Blk_upd HZ52.out hu3 (by omega))
      have HZ3 := hid (Blk_upd HZ2.out hu3 (by omega))
      have HL3 := hid ((hu3.block _ (Array.getElem?_eq_some_iff.1 HL2.out).1 (by omega)).trans HL2.out)
      clear hu3
      cases O1 with
      | up q er =>
        obtain ⟨rfl, hc⟩ := hm
        have HC := hid hc
        clear hc
        go_wp2_with fail
        exact ⟨rfl, GotR.mk_up HE.out HU3.out rfl HC.out⟩
      | ok x q =>
        obtain ⟨rfl, hc⟩ := hm
        have hiq := byteO_inv' HI.out HO1.out
        have HV := hid (HRV.out w3 q hc hiq)
        obtain ⟨O2, hO2⟩ : ∃ O2, valsO bs lim (t1, t2) q = O2 := ⟨_, rfl⟩
        have HE2 : Hid (O = O2.bind fun ps q => (valsO bs lim (s1, s2) q).bind fun rs q => .ok (ps, rs) q) := by show _ = _; rw [HE.out, ← hO2]; rfl
        rw [hO2] at HV
        have HO2 := hid hO2
        have HIQ := hid hiq
        have c0 := HZ53.out.c0
        have c1 := HZ53.out.c1
        clear hc hO2 HE hiq
        unfold cb
        go_wp2_with fail
        refine HV.out.mono ?_
        rintro e w5 ⟨hu5, hm⟩
        have HU5 := hid (HU3.out.trans hu5 (fun _ _ h => h))
        have HL5 := hid ((hu5.block _ (Array.getElem?_eq_some_iff.1 HL3.out).1 (by omega)).trans HL3.out)
        have HZ5 := hid (Blk_upd HZ3.out hu5 (by omega))
        clear hu5 c0 c1
        cases O2 with
        | up q' er =>
          obtain ⟨rfl, hc⟩ := hm
          have HC5 := hid hc
          clear hc
          go_wp2_with fail
          exact ⟨rfl, GotR.mk_up HE2.out HU5.out rfl HC5.out⟩
        | ok ps q' =>
          obtain ⟨x1, rfl, ⟨hr1, hf1⟩, hc⟩ := hm
          have hiq' := valsO_inv HIQ.out HO2.out
          have HV2 := hid (HRW.out w5 q' hc hiq')
          obtain ⟨O3, hO3⟩ : ∃ O3, valsO bs lim (s1, s2) q' = O3 := ⟨_, rfl⟩
          have HE3 : Hid (O = O3.bind fun rs q => .ok (ps, rs) q) := by show _ = _; rw [HE2.out, ← hO3]; rfl
          rw [hO3] at HV2
          have HR1 := hid hr1
          have HF1 := hid hf1
          obtain ⟨a1, k1, rfl⟩ := hr1.rd.shape
          have c0 := HZ5.out.c0
          have c1 := HZ5.out.c1
          clear hc hO3 HE2 hiq' hr1 hf1
          go_wp2_with fail
          refine HV2.out.mono ?_
          rintro e w7 ⟨hu7, hm⟩
          have HU7 := hid (HU5.out.trans hu7 (fun _ _ h => h))
          have HL7 := hid ((hu7.block _ (Array.getElem?_eq_some_iff.1 HL5.out).1 (by omega)).trans HL5.out)
          have HR17 := hid (HR1.out.upd hu7 (fun k hk e => by have := HF1.out k hk; have := HU3.out.size; omega))
          clear hu7 c0 c1
          cases O3 with
          | up q'' er =>
            obtain ⟨rfl, hc⟩ := hm
            have HC7 := hid hc
            clear hc
            go_wp2_with fail
            exact ⟨rfl, GotR.mk_up HE3.out HU7.out rfl HC7.out⟩
          | ok rs q'' =>
            obtain ⟨x2, rfl, ⟨hr2, hf2⟩, hc⟩ := hm
            have HC7 := hid hc
            have HR2 := hid hr2
            have HF2 := hid hf2
            obtain ⟨a2, k2, rfl⟩ := hr2.rd.shape
            clear hc hr2 hf2
            go_wp2_with (refine wpList_store_row rfl 35 _ _ rfl (w.heap.size + 1) #[.slice a1 ps.length k1, .slice a2 rs.length k2] rfl rfl 35 _ HL7.out infoFn2 rfl (by simp [Value.oneCell']) ?_)
            obtain ⟨hus, hbs⟩ := run_setRow (cs := #[.slice a1 ps.length k1, .slice a2 rs.length k2]) HL7.out
            go_wp2_with fail
            refine ret_agg rfl Try.underlying35 rfl (w.heap.size + 1) #[.slice a1 ps.length k1, .slice a2 rs.length k2] 35 infoFn2 rfl rfl hbs ?_
            have hz2 : w.heap.size + 2 ≤ w3.heap.size := by have := HN2.out; have := HSZ.out; have := HZ53.out.lt; have := HU3.out.size; omega
            refine GotR.mk_ok (a := (ps, rs)) HE3.out (HU7.out.trans hus (T := fun k => k = w.heap.size + 1) (fun k hk h => by omega)) rfl ⟨_, _, rfl, ?_, ?_, ?_, ?_⟩ ?_
            · exact HR17.out.upd hus (fun k hk e => by have := HF1.out k hk; omega)
            · exact fun k hk => by have := HF1.out k hk; omega
            · exact HR2.out.upd hus (fun k hk e => by have := HF2.out k hk; have := HZ5.out.lt; have := (Array.getElem?_eq_some_iff.1 HL5.out).1; omega)
            · exact fun k hk => by have := HF2.out k hk; have := HZ5.out.lt; omega
            · exact HC7.out.upd hus (by omega) (fun hb k hk e => by have := H0.out.rd.there hb k hk; omega)
end Go.Proofs.Ytjagimlmclejeaa

namespace Go.Proofs.Ytjagimlmclejeaa
open Go.RowKit Go.Proofs.Leb Go.Proofs.Own
set_option maxRecDepth 100000
set_option maxHeartbeats 4000000

theorem backLm_any (x : Lm) (w : World) : Calls Try.prog 66 #[.agg (lmC x)] w (OwnC0 (lmC x) w) := by
  obtain ⟨h, mn, mx⟩ := x
  unfold lmC
  simp only
  go_enter Try.func66, Try.ntmps66
  go_wp2_with fail
  exact ret_agg rfl Try.underlying26 rfl (w.heap.size + 1) #[.bool h, .int .u32 mn, .int .u32 mx] 26 (by kernel_rfl) rfl rfl (hp_new (by simp)) ⟨rfl, ((Upd.refl _ _).alloc _).alloc _⟩
theorem backGt_any (t : Int) (m : Bool) (w : World) : Calls Try.prog 38 #[.agg #[.int .u8 t, .bool m]] w (OwnC0 #[.int .u8 t, .bool m] w) := by
  go_enter Try.func38, Try.ntmps38
  go_wp2_with fail
  exact ret_agg rfl Try.underlying30 rfl (w.heap.size + 1) #[.int .u8 t, .bool m] 30 (by kernel_rfl) rfl rfl (hp_new (by simp)) ⟨rfl, ((Upd.refl _ _).alloc _).alloc _⟩
theorem infoTbR4 : (Try.prog.info? 28).map (·.size) = some 4 := by kernel_rfl
theorem backTb_any (x : Tb) (w : World) : Calls Try.prog 39 #[.agg (tbC x)] w (OwnC0 (tbC x) w) := by
  have HL := hid (fun w' => backLm_any ⟨x.h, x.mn, x.mx⟩ w')
  obtain ⟨e, h, mn, mx⟩ := x
  unfold OwnC0 lmC at HL
  unfold tbC
  simp only at *
  have HW : Hid (Fil w #[.int .u8 e, .bool h, .int .u32 mn, .int .u32 mx] 41 ((w.alloc (.cells #[.int .u8 e, .bool h, .int .u32 mn, .int .u32 mx] 41)).alloc (.cells #[.int .u8 0, .bool false, .int .u32 0, .int .u32 0] 28))) := Fil.mk0
  have HZ : Hid (((w.alloc (.cells #[.int .u8 e, .bool h, .int .u32 mn, .int .u32 mx] 41)).alloc (.cells #[.int .u8 0, .bool false, .int .u32 0, .int .u32 0] 28)).heap[w.heap.size + 1]? = some (.cells #[.int .u8 0, .bool false, .int .u32 0, .int .u32 0] 28)) := Fil.mk2
  go_enter Try.func39, Try.ntmps39
  go_wp2_with fail
  generalize (w.alloc (.cells #[.int .u8 e, .bool h, .int .u32 mn, .int .u32 mx] 41)).alloc (.cells #[.int .u8 0, .bool false, .int .u32 0, .int .u32 0] 28) = w0 at *
  have hn := HW.out.new (Upd.refl _ w0).drew
  have hz : w0.drew.heap[w.heap.size + 1]? = some (.cells #[.int .u8 0, .bool false, .int .u32 0, .int .u32 0] 28) := HZ.out
  refine wp_region_noPanic ?_
  refine wp_region_held_drew (S := (Fil w #[.int .u8 e, .bool h, .int .u32 mn, .int .u32 mx] 41)) (by kernel_rfl) (by first | exact hn | exact (Upd.refl _ _).drew | exact Upd.drew (by assumption)) (fun hn => ?_)
  generalize w0.drew = wd at *
  refine wpAnyH_take (i := 0) (oi := { dst := some 3, op := Op.fieldAddr 41 (Operand.tmp 1) 0, type := 0, pos := "law.go:60", after := #[], guard := none }) (v := ?v1x1) rfl (by kernel_rfl) (by kernel_rfl) (by kernel_rfl) (fun _ _ _ h => h) (Or.inl ⟨by rfl, ?y1x1⟩) hn ?r1x1
  case y1x1 => (intro wS hS; (try go_simp); (try with_reducible rfl))
  try simp only [Act.put, List.setIfInBounds_toArray, List.set_cons_zero, List.set_cons_succ]
  refine wpAnyH_take (i := 1) (oi := { dst := some 4, op := Op.load 39 (Operand.tmp 3), type := 39, pos := "law.go:60", after := #[{ on := 0, ground := Ground.data }], guard := none }) (v := ?v1x2) rfl (by kernel_rfl) (by kernel_rfl) (by kernel_rfl) (fun _ _ _ h => h) (Or.inl ⟨by rfl, ?y1x2⟩) hn ?r1x2
  case y1x2 => (intro wS hS; have c0 : wS.cell? ⟨w.heap.size, 0, none⟩ = some (.int .u8 e) := hS.at1 0 rfl; (try go_simp); (try with_reducible rfl))
  try simp only [Act.put, List.setIfInBounds_toArray, List.set_cons_zero, List.set_cons_succ]
  refine wpAnyH_take (i := 2) (oi := { dst := some 5, op := Op.fieldAddr 41 (Operand.tmp 1) 1, type := 0, pos := "law.go:60", after := #[], guard := none }) (v := ?v1x3) rfl (by kernel_rfl) (by kernel_rfl) (by kernel_rfl) (fun _ _ _ h => h) (Or.inl ⟨by rfl, ?y1x3⟩) hn ?r1x3
  case y1x3 => (intro wS hS; (try go_simp); (try with_reducible rfl))
  try simp only [Act.put, List.setIfInBounds_toArray, List.set_cons_zero, List.set_cons_succ]
  refine wpAnyH_take (i := 3) (oi := { dst := some 6, op := Op.load 37 (Operand.tmp 5), type := 37, pos := "law.go:60", after := #[{ on := 2, ground := Ground.data }], guard := none }) (v := ?v1x4) rfl (by kernel_rfl) (by kernel_rfl) (by kernel_rfl) (fun _ _ _ h => h) (Or.inl ⟨by rfl, ?y1x4⟩) hn ?r1x4
  case y1x4 => (intro wS hS; have c0 : wS.cell? ⟨w.heap.size, 1, none⟩ = some (.bool h) := hS.at1 1 rfl; have c1 : wS.cell? ⟨w.heap.size, 2, none⟩ = some (.int .u32 mn) := hS.at1 2 rfl; have c2 : wS.cell? ⟨w.heap.size, 3, none⟩ = some (.int .u32 mx) := hS.at1 3 rfl; (try go_simp); (try with_reducible rfl))
  try simp only [Act.put, List.setIfInBounds_toArray, List.set_cons_zero, List.set_cons_succ]
  refine wpAnyH_ready (rs := [4]) (by kernel_rfl) (by simp) ?_
  refine AllReadyH.cons (o := { dst := some 7, op := Op.call { callee := Callee.value (Operand.func 66), args := #[Operand.tmp 6], argTypes := #[37] }, type := 26, pos := "law.go:60", after := #[{ on := 3, ground := Ground.data }], guard := none }) rfl (fun K hK => ?_) AllReadyH.nil
  go_simp
  refine (HL.out _).mono ?_
  rintro e wq ⟨rfl, hnq⟩
  go_wp2_with fail
  have hn := hn.new hnq
  have hz := hp1 hz hnq
  refine hK.out _ _ (by first | exact hn | exact Upd.alloc hn _) (fun hn => ?_)
  clear hK K
  try simp only [Act.put, List.setIfInBounds_toArray, List.set_cons_zero, List.set_cons_succ]
  refine wpAnyH_take (i := 5) (oi := { dst := some 8, op := Op.build 28 #[(0, Operand.tmp 4), (1, Operand.tmp 7)], type := 28, pos := "law.go:60", after := #[{ on := 1, ground := Ground.data }, { on := 4, ground := Ground.data }], guard := none }) (v := ?v1x5) rfl (by kernel_rfl) (by kernel_rfl) (by kernel_rfl) (fun _ _ _ h => h) (Or.inl ⟨by rfl, ?y1x5⟩) hn ?r1x5
  case y1x5 => (intro wS hS; (try go_simp); (try with_reducible rfl))
  try simp only [Act.put, List.setIfInBounds_toArray, List.set_cons_zero, List.set_cons_succ]
  refine wpAnyH_ready (rs := [6]) (by kernel_rfl) (by simp) ?_
  refine AllReadyH.cons (o := { dst := none, op := Op.store 28 (Operand.tmp 2) (Operand.tmp 8), type := 0, pos := "law.go:60", after := #[{ on := 5, ground := Ground.data }, { on := 4, ground := Ground.chain }, { on := 0, ground := Ground.phase }, { on := 1, ground := Ground.phase }, { on := 2, ground := Ground.phase }, { on := 3, ground := Ground.phase }, { on := 4, ground := Ground.phase }, { on := 5, ground := Ground.phase }], guard := none }) rfl (fun K hK => ?_) AllReadyH.nil
  refine step_storeT 28 _ _ rfl rfl (w.heap.size + 1) #[.int .u8 e, .bool h, .int .u32 mn, .int .u32 mx] rfl rfl 28 _ hz infoTbR4 rfl (by simp [Value.oneCell']) ?_
  obtain ⟨hus, hbs⟩ := run_setRowT (cs := #[.int .u8 e, .bool h, .int .u32 mn, .int .u32 mx]) hz
  have hn := hn.set hus
  refine hK.out _ _ (by first | exact hn | exact Upd.alloc hn _) (fun hn => ?_)
  clear hK K
  try simp only [Act.put, List.setIfInBounds_toArray, List.set_cons_zero, List.set_cons_succ]
  refine wpAnyH_done (by kernel_rfl) ?_ _
  refine NoPanic.normal ?_
  go_wp2_with fail
  exact ret_agg rfl Try.underlying28 rfl (w.heap.size + 1) #[.int .u8 e, .bool h, .int .u32 mn, .int .u32 mx] 28 infoTbR4 rfl rfl hbs ⟨rfl, hn.1⟩
theorem text_any (v : Value) (bs : List UInt8) (w : World) (hr : Rd w v bs) (hl : bs.length ≤ 1000000000) : Calls Try.prog 65 #[v] w (Says bs w) := by
  have HR := hid hr
  obtain ⟨a, c, rfl⟩ := hr.shape
  have HS : Hid (∀ (W : World) (x : UInt8), (convert 50 9 (.slice (some ⟨W.heap.size, 0, none⟩) 1 1)).run Try.prog (W.alloc (.cells #[.int .u8 x.toNat] 5)) = .ok (.string ⟨[x].toArray⟩) (W.alloc (.cells #[.int .u8 x.toNat] 5))) := fun W x => (Rd.lit W [x] 5).str
  clear hr
  go_enter Try.func65, Try.ntmps65
  go_wp2_with fail
  go_loopw [3, 4] (fun s k wr => ∃ i : Nat, k = .int .i64 i ∧ i ≤ bs.length ∧ s = .string ⟨(bs.take i).toArray⟩ ∧ New w wr) (fun _ k _ => bs.length - (intOf k).toNat)
  case atStart => exact ⟨0, rfl, by omega, by simp, Upd.refl _ _⟩
  case round =>
    obtain ⟨i, rfl, hi1, rfl, hn⟩ := hrel
    have hrd := HR.out.new hn
    have HN := hid hn
    clear hn
    by_cases hi : i < bs.length
    · obtain ⟨a', c', e, hcap, hnil, hcell⟩ := hrd
      cases e
      obtain ⟨b, o, rfl, hce⟩ := hcell (by intro h; subst h; simp at hi)
      have hc1 := hce i hi
      have hg1 : bs[i]? = some bs[i] := List.getElem?_eq_getElem hi
      generalize hxe : bs[i] = x at *
      have HG := hid hg1
      obtain ⟨L, hL⟩ : ∃ L, bs.take i = L := ⟨_, rfl⟩
      have hlL : L.length = i := by rw [← hL]; simp; omega
      rw [hL]
      have hcat : ¬ 9223372036854775807 < L.length + 1 := by omega
      have HL := hid hL
      have hs := HS.out wr x
      clear hg1 hxe hce hcell hnil hL hlL
      unfold cb at hc1
      go_wp2_with fail
      go_roundw
      case rel =>
        refine ⟨i + 1, by go_num, by omega, ?_, HN.out.alloc _⟩
        rw [List.take_add_one, HG.out, HL.out]
        simp only [Option.toList_some]
        rw [← st_cat]
      case measure => simp [intOf]; omega
    · have e : i = bs.length := by omega
      subst e
      clear hrd hi
      rw [List.take_length]
      go_wp2_with fail
      go_ret
      exact ⟨rfl, HN.out⟩
theorem infoFnR2 : (Try.prog.info? 23).map (·.size) = some 2 := by kernel_rfl
theorem backFn_any (u1 u2 : Value) (p r : List UInt8) (w : World) (h1 : Rd w u1 p) (h2 : Rd w u2 r) (s1 : p.length ≤ 100000) (s2 : r.length ≤ 100000) :
    Calls Try.prog 37 #[.agg #[u1, u2]] w (OwnC0 #[.string ⟨p.toArray⟩, .string ⟨r.toArray⟩] w) := by
  have HP := hid (fun w' (hn : New w w') => text_any u1 p w' (h1.new hn) (by omega))
  have HR := hid (fun w' (hn : New w w') => text_any u2 r w' (h2.new hn) (by omega))
  obtain ⟨a1, c1, rfl⟩ := h1.shape
  obtain ⟨a2, c2, rfl⟩ := h2.shape
  clear h1 h2
  unfold Says at HP HR
  generalize (⟨p.toArray⟩ : ByteArray) = tp at *
  generalize (⟨r.toArray⟩ : ByteArray) = tr at *
  have HW : Hid (Fil w #[.slice a1 p.length c1, .slice a2 r.length c2] 35 ((w.alloc (.cells #[.slice a1 p.length c1, .slice a2 r.length c2] 35)).alloc (.cells #[.string ⟨#[]⟩, .string ⟨#[]⟩] 23))) := Fil.mk0
  have HZ : Hid (((w.alloc (.cells #[.slice a1 p.length c1, .slice a2 r.length c2] 35)).alloc (.cells #[.string ⟨#[]⟩, .string ⟨#[]⟩] 23)).heap[w.heap.size + 1]? = some (.cells #[.string ⟨#[]⟩, .string ⟨#[]⟩] 23)) := Fil.mk2
  go_enter Try.func37, Try.ntmps37
  go_wp2_with fail
  generalize (w.alloc (.cells #[.slice a1 p.length c1, .slice a2 r.length c2] 35)).alloc (.cells #[.string ⟨#[]⟩, .string ⟨#[]⟩] 23) = w0 at *
  have hn := HW.out.new (Upd.refl _ w0).drew
  have hz : w0.drew.heap[w.heap.size + 1]? = some (.cells #[.string ⟨#[]⟩, .string ⟨#[]⟩] 23) := HZ.out
  refine wp_region_noPanic ?_
  refine wp_region_held_drew (S := (Fil w #[.slice a1 p.length c1, .slice a2 r.length c2] 35)) (by kernel_rfl) (by first | exact hn | exact (Upd.refl _ _).drew | exact Upd.drew (by assumption)) (fun hn => ?_)
  generalize w0.drew = wd at *
  refine wpAnyH_take (i := 0) (oi := { dst := some 3, op := Op.fieldAddr 35 (Operand.tmp 1) 0, type := 0, pos := "law.go:40", after := #[], guard := none }) (v := ?v2x1) rfl (by kernel_rfl) (by kernel_rfl) (by kernel_rfl) (fun _ _ _ h => h) (Or.inl ⟨by rfl, ?y2x1⟩) hn ?r2x1
  case y2x1 => (intro wS hS; (try go_simp); (try with_reducible rfl))
  try simp only [Act.put, List.setIfInBounds_toArray, List.set_cons_zero, List.set_cons_succ]
  refine wpAnyH_take (i := 1) (oi := { dst := some 4, op := Op.load 33 (Operand.tmp 3), type := 33, pos := "law.go:40", after := #[{ on := 0, ground := Ground.data }], guard := none }) (v := ?v2x2) rfl (by kernel_rfl) (by kernel_rfl) (by kernel_rfl) (fun _ _ _ h => h) (Or.inl ⟨by rfl, ?y2x2⟩) hn ?r2x2
  case y2x2 => (intro wS hS; have c0 : wS.cell? ⟨w.heap.size, 0, none⟩ = some (.slice a1 p.length c1) := hS.at1 0 rfl; (try go_simp); (try with_reducible rfl))
  try simp only [Act.put, List.setIfInBounds_toArray, List.set_cons_zero, List.set_cons_succ]
  refine wpAnyH_take (i := 3) (oi := { dst := some 6, op := Op.fieldAddr 35 (Operand.tmp 1) 1, type := 0, pos := "law.go:40", after := #[], guard := none }) (v := ?v2x3) rfl (by kernel_rfl) (by kernel_rfl) (by kernel_rfl) (fun _ _ _ h => h) (Or.inl ⟨by rfl, ?y2x3⟩) hn ?r2x3
  case y2x3 => (intro wS hS; (try go_simp); (try with_reducible rfl))
  try simp only [Act.put, List.setIfInBounds_toArray, List.set_cons_zero, List.set_cons_succ]
  refine wpAnyH_take (i := 4) (oi := { dst := some 7, op := Op.load 33 (Operand.tmp 6), type := 33, pos := "law.go:40", after := #[{ on := 3, ground := Ground.data }], guard := none }) (v := ?v2x4) rfl (by kernel_rfl) (by kernel_rfl) (by kernel_rfl) (fun _ _ _ h => h) (Or.inl ⟨by rfl, ?y2x4⟩) hn ?r2x4
  case y2x4 => (intro wS hS; have c0 : wS.cell? ⟨w.heap.size, 1, none⟩ = some (.slice a2 r.length c2) := hS.at1 1 rfl; (try go_simp); (try with_reducible rfl))
  try simp only [Act.put, List.setIfInBounds_toArray, List.set_cons_zero, List.set_cons_succ]
  refine wpAnyH_ready (rs := [2]) (by kernel_rfl) (by simp) ?_
  refine AllReadyH.cons (o := { dst := some 5, op := Op.call { callee := Callee.value (Operand.func 65), args := #[Operand.tmp 4], argTypes := #[33] }, type := 9, pos := "law.go:40", after := #[{ on := 1, ground := Ground.data }], guard := none }) rfl (fun K hK => ?_) AllReadyH.nil
  go_simp
  refine (HP.out _ hn.1).mono ?_
  rintro e wq ⟨rfl, hnq⟩
  go_wp2_with fail
  have hn := hn.new hnq
  have hz := hp1 hz hnq
  refine hK.out _ _ (by first | exact hn | exact Upd.alloc hn _) (fun hn => ?_)
  clear hK K
  try simp only [Act.put, List.setIfInBounds_toArray, List.set_cons_zero, List.set_cons_succ]
  refine wpAnyH_ready (rs := [5]) (by kernel_rfl) (by simp) ?_
  refine AllReadyH.cons (o := { dst := some 8, op := Op.call { callee := Callee.value (Operand.func 65), args := #[Operand.tmp 7], argTypes := #[33] }, type := 9, pos := "law.go:40", after := #[{ on := 4, ground := Ground.data }, { on := 2, ground := Ground.chain }], guard := none }) rfl (fun K hK => ?_) AllReadyH.nil
  go_simp
  refine (HR.out _ hn.1).mono ?_
  rintro e wr ⟨rfl, hnq⟩
  go_wp2_with fail
  have hn := hn.new hnq
  have hz := hp1 hz hnq
  refine hK.out _ _ (by first | exact hn | exact Upd.alloc hn _) (fun hn => ?_)
  clear hK K
  try simp only [Act.put, List.setIfInBounds_toArray, List.set_cons_zero, List.set_cons_succ]
  refine wpAnyH_take (i := 6) (oi := { dst := some 9, op := Op.build 23 #[(0, Operand.tmp 5), (1, Operand.tmp 8)], type := 23, pos := "law.go:40", after := #[{ on := 2, ground := Ground.data }, { on := 5, ground := Ground.data }], guard := none }) (v := ?v2x5) rfl (by kernel_rfl) (by kernel_rfl) (by kernel_rfl) (fun _ _ _ h => h) (Or.inl ⟨by rfl, ?y2x5⟩) hn ?r2x5
  case y2x5 => (intro wS hS; (try go_simp); (try with_reducible rfl))
  try simp only [Act.put, List.setIfInBounds_toArray, List.set_cons_zero, List.set_cons_succ]
  refine wpAnyH_ready (rs := [7]) (by kernel_rfl) (by simp) ?_
  refine AllReadyH.cons (o := { dst := none, op := Op.store 23 (Operand.tmp 2) (Operand.tmp 9), type := 0, pos := "law.go:40", after := #[{ on := 6, ground := Ground.data }, { on := 5, ground := Ground.chain }, { on := 0, ground := Ground.phase }, { on := 1, ground := Ground.phase }, { on := 2, ground := Ground.phase }, { on := 3, ground := Ground.phase }, { on := 4, ground := Ground.phase }, { on := 5, ground := Ground.phase }, { on := 6, ground := Ground.phase }], guard := none }) rfl (fun K hK => ?_) AllReadyH.nil
  refine step_storeT 23 _ _ rfl rfl (w.heap.size + 1) #[.string tp, .string tr] rfl rfl 23 _ hz infoFnR2 rfl (by simp [Value.oneCell']) ?_
  obtain ⟨hus, hbs⟩ := run_setRowT (cs := #[.string tp, .string tr]) hz
  have hn := hn.set hus
  refine hK.out _ _ (by first | exact hn | exact Upd.alloc hn _) (fun hn => ?_)
  clear hK K
  try simp only [Act.put, List.setIfInBounds_toArray, List.set_cons_zero, List.set_cons_succ]
  refine wpAnyH_done (by kernel_rfl) ?_ _
  refine NoPanic.normal ?_
  go_wp2_with fail
  exact ret_agg rfl Try.underlying23 rfl (w.heap.size + 1) #[.string tp, .string tr] 23 infoFnR2 rfl rfl hbs ⟨rfl, hn.1⟩
end Go.Proofs.Ytjagimlmclejeaa
