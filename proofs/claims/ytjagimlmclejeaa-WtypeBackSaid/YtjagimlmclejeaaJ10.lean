/-
  The cursor: a number without a sign, its digits one by one.
-/
import Derived.Test.YtjagimlmclejeaaJ9
import Derived.Test.YtjagimlmclejeaaJ4
namespace Go.Proofs.Ytjagimlmclejeaa
open Go.RowKit Go.Proofs.Leb Go.Proofs.Own Go.Proofs.Cur
set_option maxRecDepth 100000
set_option maxHeartbeats 2000000

theorem digit_or' (ds : List UInt8) (x : UInt8) (hl : ds.length ≤ 9) :
    Go.bits .or .u64 (vm ds : Int) (IntKind.u64.wrap (IntKind.u64.wrap (Go.bits .and .u8 (x.toNat : Int) 127) * 2 ^ (7 * ds.length))) = (vm (ds ++ [x]) : Int) := by
  have h := digit_or (ds ++ [x]) ds.length hl (by simp)
  rw [List.take_left, List.take_of_length_le (by simp)] at h
  rw [List.getElem_append_right (Nat.le_refl _)] at h
  simpa only [Nat.sub_self, List.getElem_cons_zero] using h
theorem vm_val {ds : List UInt8} (h : ds.length ≤ 9) : vm ds = val ds := by
  have h1 := val_lt ds
  have h2 : (128 : Nat) ^ ds.length ≤ 128 ^ 9 := Nat.pow_le_pow_right (by decide) h
  have h3 : (128 : Nat) ^ 9 = 9223372036854775808 := by decide
  exact Nat.mod_eq_of_lt (by omega)

theorem Uint1_any (ds : List UInt8) (x : UInt8) (Bw Bv Bk : Nat) (r : Int) (Gw : Nat) (cw : Array Value) (hG : Enters Gw) (W : Int → List (Nat × Nat)) (w : World) (hk : ds.length ≤ 4) (r0 : 0 ≤ r) (r1 : r ≤ 1099511627776)
    (kw : w.cell? ⟨Bw, 0, none⟩ = some (.func (.func Gw) #[] cw)) (kv : w.cell? ⟨Bv, 0, none⟩ = some (.int .u64 (vm ds : Nat))) (kk : w.cell? ⟨Bk, 0, none⟩ = some (.int .i64 ds.length))
    (hW : ∀ r' w1, New w w1 → 0 ≤ r' → r' ≤ 1099511627776 → Wants Gw cw W r' w1) (hF : ∀ r, Few (W r)) :
    Calls Try.prog 79 #[cb x, .int .i64 r, .pointer (some ⟨Bv, 0, none⟩), .pointer (some ⟨Bk, 0, none⟩), .pointer (some ⟨Bw, 0, none⟩)] w (Yes (mayU (inW W) ds x r) w) := by
  have HG := hid hG
  have HW := hid hW
  have KW := hid kw
  have KV := hid kv
  have KK := hid kk
  obtain ⟨k, hkk⟩ : ∃ k, ds.length = k := ⟨_, rfl⟩
  obtain ⟨low, hlow⟩ : ∃ low, vm (ds ++ [x]) = low := ⟨_, rfl⟩
  have hor := digit_or' ds x (by omega)
  have hval : val (ds ++ [x]) = low := by rw [← hlow, vm_val (by simp; omega)]
  have hlt : low < 128 ^ (k + 1) := by rw [← hval, ← hkk]; have := val_lt (ds ++ [x]); simpa using this
  have HMU : Hid (mayU (inW W) ds x r ↔ comes (fun more r => fits (inW W) low (k + 1) more r) x.toNat (4 - k) r) := by
    show _ ↔ _
    unfold mayU
    rw [hval, hkk]
  rw [hlow, hkk] at hor
  rw [hkk] at KK hk
  have hx := u8_lt x
  obtain ⟨v0, hv0⟩ : ∃ v0, vm ds = v0 := ⟨_, rfl⟩
  rw [hv0] at hor KV
  have e1 : IntKind.i64.wrap (7 * (k : Int)) = ((7 * k : Nat) : Int) := by rw [IntWalk.i64_in _ (by omega)]; omega
  have HOR := hid hor
  have E1 := hid e1
  have HLT := hid hlt
  have hn : New w w.drew := (Upd.refl _ _).drew
  clear hW hG kw kv kk hkk hlow hval hlt hor hv0 e1
  unfold cb
  go_enter Try.func79, Try.ntmps79
  go_wp2_with fail
  have e1 := E1.out
  have hor := HOR.out
  go_cut [8] (fun p wx => ∃ g, p = .pointer (some ⟨g, 0, none⟩) ∧ New w wx ∧ One1 wx g (.int .u64 low))
  case first =>
    refine wp_region_noPanic ?_
    refine wp_region_held_drew (S := (New w)) (by kernel_rfl) (by first | exact hn | exact (Upd.refl _ _).drew | exact Upd.drew (by assumption)) (fun hn => ?_)
    generalize w.drew = wd at *
    refine wpAnyH_take (i := 0) (oi := { dst := some 9, op := Op.load 78 (Operand.tmp 2), type := 78, pos := "cursor.go:80", after := #[], guard := none }) (v := ?v1x1) rfl (by kernel_rfl) (by kernel_rfl) (by kernel_rfl) (fun _ _ _ h => h) (Or.inl ⟨by rfl, ?y1x1⟩) hn ?r1x1
    case y1x1 => (intro wS hS; have c := hS.cell KV.out (fun h => h); (try go_simp); (try with_reducible rfl))
    try simp only [Act.put, List.setIfInBounds_toArray, List.set_cons_zero, List.set_cons_succ]
    refine wpAnyH_take (i := 1) (oi := { dst := some 10, op := Op.move (Operand.tmp 0), type := 5, pos := "cursor.go:80", after := #[], guard := none }) (v := ?v1x2) rfl (by kernel_rfl) (by kernel_rfl) (by kernel_rfl) (fun _ _ _ h => h) (Or.inl ⟨by rfl, ?y1x2⟩) hn ?r1x2
    case y1x2 => (intro wS hS; (try go_simp); (try with_reducible rfl))
    try simp only [Act.put, List.setIfInBounds_toArray, List.set_cons_zero, List.set_cons_succ]
    refine wpAnyH_take (i := 2) (oi := { dst := some 11, op := Op.binOp BinOp.and 5 (Operand.tmp 10) (Operand.const (Value.int IntKind.u8 127)) 5, type := 5, pos := "cursor.go:80", after := #[{ on := 1, ground := Ground.data }], guard := none }) (v := ?v1x3) rfl (by kernel_rfl) (by kernel_rfl) (by kernel_rfl) (fun _ _ _ h => h) (Or.inl ⟨by rfl, ?y1x3⟩) hn ?r1x3
    case y1x3 => (intro wS hS; (try go_simp); (try with_reducible rfl))
    try simp only [Act.put, List.setIfInBounds_toArray, List.set_cons_zero, List.set_cons_succ]
    refine wpAnyH_take (i := 3) (oi := { dst := some 12, op := Op.convert 5 78 (Operand.tmp 11), type := 78, pos := "cursor.go:80", after := #[{ on := 2, ground := Ground.data }], guard := none }) (v := ?v1x4) rfl (by kernel_rfl) (by kernel_rfl) (by kernel_rfl) (fun _ _ _ h => h) (Or.inl ⟨by rfl, ?y1x4⟩) hn ?r1x4
    case y1x4 => (intro wS hS; (try go_simp); (try with_reducible rfl))
    try simp only [Act.put, List.setIfInBounds_toArray, List.set_cons_zero, List.set_cons_succ]
    refine wpAnyH_take (i := 4) (oi := { dst := some 13, op := Op.load 3 (Operand.tmp 3), type := 3, pos := "cursor.go:80", after := #[], guard := none }) (v := ?v1x5) rfl (by kernel_rfl) (by kernel_rfl) (by kernel_rfl) (fun _ _ _ h => h) (Or.inl ⟨by rfl, ?y1x5⟩) hn ?r1x5
    case y1x5 => (intro wS hS; have c := hS.cell KK.out (fun h => h); (try go_simp); (try with_reducible rfl))
    try simp only [Act.put, List.setIfInBounds_toArray, List.set_cons_zero, List.set_cons_succ]
    refine wpAnyH_take (i := 5) (oi := { dst := some 14, op := Op.binOp BinOp.mul 3 (Operand.const (Value.int IntKind.i64 7)) (Operand.tmp 13) 3, type := 3, pos := "cursor.go:80", after := #[{ on := 4, ground := Ground.data }], guard := none }) (v := ?v1x6) rfl (by kernel_rfl) (by kernel_rfl) (by kernel_rfl) (fun _ _ _ h => h) (Or.inl ⟨by rfl, ?y1x6⟩) hn ?r1x6
    case y1x6 => (intro wS hS; (try go_simp); (try with_reducible rfl))
    try simp only [Act.put, List.setIfInBounds_toArray, List.set_cons_zero, List.set_cons_succ]
    refine wpAnyH_take (i := 6) (oi := { dst := some 15, op := Op.binOp BinOp.shl 78 (Operand.tmp 12) (Operand.tmp 14) 3, type := 78, pos := "cursor.go:80", after := #[{ on := 3, ground := Ground.data }, { on := 5, ground := Ground.data }], guard := none }) (v := ?v1x7) rfl (by kernel_rfl) (by kernel_rfl) (by kernel_rfl) (fun _ _ _ h => h) (Or.inl ⟨by rfl, ?y1x7⟩) hn ?r1x7
    case y1x7 => (intro wS hS; (try go_simp); (try with_reducible rfl))
    try simp only [Act.put, List.setIfInBounds_toArray, List.set_cons_zero, List.set_cons_succ]
    refine wpAnyH_take (i := 7) (oi := { dst := some 16, op := Op.binOp BinOp.or 78 (Operand.tmp 9) (Operand.tmp 15) 78, type := 78, pos := "cursor.go:80", after := #[{ on := 0, ground := Ground.data }, { on := 6, ground := Ground.data }], guard := none }) (v := ?v1x8) rfl (by kernel_rfl) (by kernel_rfl) (by kernel_rfl) (fun _ _ _ h => h) (Or.inl ⟨by rfl, ?y1x8⟩) hn ?r1x8
    case y1x8 => (intro wS hS; (try go_simp); (try with_reducible rfl))
    try simp only [Act.put, List.setIfInBounds_toArray, List.set_cons_zero, List.set_cons_succ]
    refine wpAnyH_ready (rs := [8]) (by kernel_rfl) (by simp) ?_
    refine AllReadyH.cons (o := { dst := some 8, op := Op.alloc 78, type := 0, pos := "cursor.go:80", after := #[], guard := none }) rfl (fun K hK => ?_) AllReadyH.nil
    go_simp
    refine absN hn ?_ hn.size
    intro g8 hg8 hf8
    rw [hg8] at hf8 ⊢
    refine alloc1Step hn ?_
    intro W2 hu hn hz8
    rw [hg8] at hz8
    clear hg8 hu
    refine hK.out _ _ (by first | exact hn | exact Upd.alloc hn _) (fun hn => ?_)
    clear hK K
    try simp only [Act.put, List.setIfInBounds_toArray, List.set_cons_zero, List.set_cons_succ]
    refine wpAnyH_ready (rs := [9]) (by kernel_rfl) (by simp) ?_
    refine AllReadyH.cons (o := { dst := none, op := Op.store 78 (Operand.tmp 8) (Operand.tmp 16), type := 0, pos := "cursor.go:80", after := #[{ on := 8, ground := Ground.data }, { on := 7, ground := Ground.data }, { on := 0, ground := Ground.phase }, { on := 1, ground := Ground.phase }, { on := 2, ground := Ground.phase }, { on := 3, ground := Ground.phase }, { on := 4, ground := Ground.phase }, { on := 5, ground := Ground.phase }, { on := 6, ground := Ground.phase }, { on := 7, ground := Ground.phase }, { on := 8, ground := Ground.phase }], guard := none }) rfl (fun K hK => ?_) AllReadyH.nil
    have z0 := hz8.c
    have f0 := hz8.f
    go_simp
    refine store1Step hn hz8 hf8 ?_
    clear z0 f0
    intro W2 hn hz8' hO
    clear hO hz8
    have hz8 := hz8'
    refine hK.out _ _ (by first | exact hn | exact Upd.alloc hn _) (fun hn => ?_)
    clear hK K
    try simp only [Act.put, List.setIfInBounds_toArray, List.set_cons_zero, List.set_cons_succ]
    refine wpAnyH_done (by kernel_rfl) ?_ _
    refine NoPanic.normal ?_
    rw [show (7 * (k : Int)).toNat = 7 * k by omega, HOR.out] at hz8
    go_wp2_with fail
    go_meet
    exact ⟨g8, rfl, hn, hz8⟩
  case rest =>
    obtain ⟨g, rfl, hw, hz⟩ := hcut
    obtain ⟨w1, rfl⟩ : ∃ w1, w1 = wc := ⟨_, rfl⟩
    have HN1 := hid hw
    have HZ1 := hid hz
    have HK1 := hid (hw.cell KK.out (fun h => h))
    have HWW1 := hid (hw.cell KW.out (fun h => h))
    have hc := comes_any x.toNat (4 - k) r 81 #[.pointer (some ⟨Bw, 0, none⟩), .pointer (some ⟨g, 0, none⟩), .pointer (some ⟨Bk, 0, none⟩)] (fun _ _ => rfl) (fun more r => fits (inW W) low (k + 1) more r) w1 hx (by omega) r0 r1
      (fun j r' w2 hn2 hj hr0 hr1 _ => Uint11_any j k low Bw g Bk r' Gw cw HG.out W w2 (by omega) hk HLT.out (hn2.cell HWW1.out (fun h => h)) (hz.new hn2).c (hn2.cell HK1.out (fun h => h))
        (fun w3 hn3 => HW.out r' w3 (New.trans (New.trans hw hn2) hn3) hr0 hr1) (hF r'))
    have e4 : (4 : Int) - (k : Int) = ((4 - k : Nat) : Int) := by omega
    have HC := hid hc
    have HF := hid hF
    clear hc hw hz hF hor e1 hn
    have hkc := HK1.out
    go_wp2_with fail
    refine HC.out.mono ?_
    rintro e w2 ⟨b, rfl, hb, hn2⟩
    have HB := hid hb
    clear hb
    go_wp2_with fail
    go_ret
    exact ⟨b, rfl, HB.out.trans HMU.out.symm, New.trans HN1.out hn2⟩
end Go.Proofs.Ytjagimlmclejeaa
