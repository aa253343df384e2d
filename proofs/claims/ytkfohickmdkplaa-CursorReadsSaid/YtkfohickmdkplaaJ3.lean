/-
  The cursor: a digit of a number without a sign: may it stand?
-/
import Derived.Test.YtkfohickmdkplaaJ2
import Derived.Test.YtkfohickmdkplaaJ1
import Derived.StillTailTactics
import Derived.Test.YtkfohickmdkplaaJ0
import Derived.Laws.IdiomStrings
import Derived.Laws.Slices
namespace Go.Proofs.Ytkfohickmdkplaa
open Go.RowKit Go.Proofs.Leb Go.Proofs.Own Go.Proofs.Cur
set_option maxRecDepth 100000
set_option maxHeartbeats 2000000

/-- the numbers of ranges -/
def inW (W : Int → List (Nat × Nat)) (r : Int) (n : Nat) : Prop := ∃ x ∈ W r, x.1 ≤ n ∧ n ≤ x.2
/-- the ranges are few, of numbers of 64 bits -/
def Few (l : List (Nat × Nat)) : Prop := l.length ≤ 1000000 ∧ ∀ i (h : i < l.length), l[i].1 < 18446744073709551616 ∧ l[i].2 < 18446744073709551616
/-- a function value answers which numbers may stand -/
def Wants (Gw : Nat) (cw : Array Value) (W : Int → List (Nat × Nat)) (r : Int) (w : World) : Prop :=
  Calls Try.prog Gw (#[.int .i64 r] ++ cw) w fun e w' => ∃ v, e = .returned v ∧ RdP w' v (W r) ∧ New w w'

theorem any_fits (W : Int → List (Nat × Nat)) (low k more : Nat) (r : Int) (hl : low < 128 ^ (k + 1)) :
    ((W r).any fun x => Span.look x.1 x.2 low (7 * (k + 1)) more 32) = true ↔ fits (inW W) low (k + 1) more r := by
  have hl' : low < 2 ^ (7 * (k + 1)) := by rw [← pow128]; exact hl
  rw [List.any_eq_true]
  unfold fits inW
  constructor
  · rintro ⟨x, hx, hlook⟩
    rw [Span.look_fit _ _ _ _ _ _ hl'] at hlook
    obtain ⟨v, h1, h2, h3, h4, h5⟩ := hlook
    rw [← pow128] at h4 h5
    exact ⟨v, ⟨x, hx, h1, h2⟩, h3, h4, h5⟩
  · rintro ⟨v, ⟨x, hx, h1, h2⟩, h3, h4, h5⟩
    rw [pow128] at h4 h5
    exact ⟨x, hx, (Span.look_fit _ _ _ _ _ _ hl').mpr ⟨v, h1, h2, h3, h4, h5⟩⟩

theorem Uint11_any (more k low Bw Bl Bk : Nat) (r : Int) (Gw : Nat) (cw : Array Value) (hG : Enters Gw) (W : Int → List (Nat × Nat)) (w : World) (hm : more ≤ 9) (hk : k ≤ 4) (hlow : low < 128 ^ (k + 1))
    (kw : w.cell? ⟨Bw, 0, none⟩ = some (.func (.func Gw) #[] cw)) (kl : w.cell? ⟨Bl, 0, none⟩ = some (.int .u64 low)) (kk : w.cell? ⟨Bk, 0, none⟩ = some (.int .i64 k))
    (hW : ∀ w1, New w w1 → Wants Gw cw W r w1) (hF : Few (W r)) :
    Calls Try.prog 47 #[.int .i64 more, .int .i64 r, .pointer (some ⟨Bw, 0, none⟩), .pointer (some ⟨Bl, 0, none⟩), .pointer (some ⟨Bk, 0, none⟩)] w (Yes (fits (inW W) low (k + 1) more r) w) := by
  have HG := hid hG
  have HW := hid hW
  have KW := hid kw
  have KL := hid kl
  have KK := hid kk
  have HAF := hid (any_fits W low k more r hlow)
  obtain ⟨s, hs⟩ : ∃ s, 7 * (k + 1) = s := ⟨_, rfl⟩
  have hs63 : s ≤ 63 := by omega
  have hlow' : low < 2 ^ s := by rw [← hs, ← pow128]; exact hlow
  have e1 : IntKind.i64.wrap ((k : Int) + 1) = (k : Int) + 1 := IntWalk.i64_in _ (by omega)
  have e2 : IntKind.i64.wrap (7 * ((k : Int) + 1)) = (s : Int) := by rw [IntWalk.i64_in _ (by omega)]; omega
  have E1 := hid e1
  have E2 := hid e2
  rw [hs] at HAF
  have HFT := hid (fun v w (h : RdP w v (W r)) => Fits_any v (W r) low s more 32 w h hF.1 hs63 hm (by decide) hlow' hF.2)
  have hn : New w w.drew := (Upd.refl _ _).drew
  clear hW hG hF kw kl kk hs hs63 hlow hlow' e1 e2 hm
  go_enter Try.func47, Try.ntmps47
  go_wp2_with fail
  have e1 := E1.out
  have e2 := E2.out
  refine wp_region_noPanic ?_
  refine wp_region_held_drew (S := (New w)) (by kernel_rfl) (by first | exact hn | exact (Upd.refl _ _).drew | exact Upd.drew (by assumption)) (fun hn => ?_)
  refine wpAnyH_take (i := 0) (oi := { dst := some 8, op := Op.load 65 (Operand.tmp 2), type := 65, pos := "cursor.go:82", after := #[], guard := none }) (v := ?v7x1) rfl (by kernel_rfl) (by kernel_rfl) (by kernel_rfl) (fun _ _ _ h => h) (Or.inl ⟨by rfl, ?y7x1⟩) hn ?r7x1
  case y7x1 => (intro wS hS; have c := hS.cell KW.out (fun h => h); (try go_simp); (try with_reducible rfl))
  try simp only [Act.put, List.setIfInBounds_toArray, List.set_cons_zero, List.set_cons_succ]
  refine wpAnyH_take (i := 1) (oi := { dst := some 9, op := Op.move (Operand.tmp 1), type := 3, pos := "cursor.go:82", after := #[], guard := none }) (v := ?v7x2) rfl (by kernel_rfl) (by kernel_rfl) (by kernel_rfl) (fun _ _ _ h => h) (Or.inl ⟨by rfl, ?y7x2⟩) hn ?r7x2
  case y7x2 => (intro wS hS; (try go_simp); (try with_reducible rfl))
  try simp only [Act.put, List.setIfInBounds_toArray, List.set_cons_zero, List.set_cons_succ]
  refine wpAnyH_take (i := 3) (oi := { dst := some 11, op := Op.load 42 (Operand.tmp 3), type := 42, pos := "cursor.go:82", after := #[], guard := none }) (v := ?v7x3) rfl (by kernel_rfl) (by kernel_rfl) (by kernel_rfl) (fun _ _ _ h => h) (Or.inl ⟨by rfl, ?y7x3⟩) hn ?r7x3
  case y7x3 => (intro wS hS; have c := hS.cell KL.out (fun h => h); (try go_simp); (try with_reducible rfl))
  try simp only [Act.put, List.setIfInBounds_toArray, List.set_cons_zero, List.set_cons_succ]
  refine wpAnyH_take (i := 4) (oi := { dst := some 12, op := Op.load 3 (Operand.tmp 4), type := 3, pos := "cursor.go:82", after := #[], guard := none }) (v := ?v7x4) rfl (by kernel_rfl) (by kernel_rfl) (by kernel_rfl) (fun _ _ _ h => h) (Or.inl ⟨by rfl, ?y7x4⟩) hn ?r7x4
  case y7x4 => (intro wS hS; have c := hS.cell KK.out (fun h => h); (try go_simp); (try with_reducible rfl))
  try simp only [Act.put, List.setIfInBounds_toArray, List.set_cons_zero, List.set_cons_succ]
  refine wpAnyH_take (i := 5) (oi := { dst := some 13, op := Op.binOp BinOp.add 3 (Operand.tmp 12) (Operand.const (Value.int IntKind.i64 1)) 3, type := 3, pos := "cursor.go:82", after := #[{ on := 4, ground := Ground.data }], guard := none }) (v := ?v7x5) rfl (by kernel_rfl) (by kernel_rfl) (by kernel_rfl) (fun _ _ _ h => h) (Or.inl ⟨by rfl, ?y7x5⟩) hn ?r7x5
  case y7x5 => (intro wS hS; (try go_simp); (try with_reducible rfl))
  try simp only [Act.put, List.setIfInBounds_toArray, List.set_cons_zero, List.set_cons_succ]
  refine wpAnyH_take (i := 6) (oi := { dst := some 14, op := Op.binOp BinOp.mul 3 (Operand.const (Value.int IntKind.i64 7)) (Operand.tmp 13) 3, type := 3, pos := "cursor.go:82", after := #[{ on := 5, ground := Ground.data }], guard := none }) (v := ?v7x6) rfl (by kernel_rfl) (by kernel_rfl) (by kernel_rfl) (fun _ _ _ h => h) (Or.inl ⟨by rfl, ?y7x6⟩) hn ?r7x6
  case y7x6 => (intro wS hS; (try go_simp); (try with_reducible rfl))
  try simp only [Act.put, List.setIfInBounds_toArray, List.set_cons_zero, List.set_cons_succ]
  refine wpAnyH_take (i := 7) (oi := { dst := some 15, op := Op.move (Operand.tmp 0), type := 3, pos := "cursor.go:82", after := #[], guard := none }) (v := ?v7x7) rfl (by kernel_rfl) (by kernel_rfl) (by kernel_rfl) (fun _ _ _ h => h) (Or.inl ⟨by rfl, ?y7x7⟩) hn ?r7x7
  case y7x7 => (intro wS hS; (try go_simp); (try with_reducible rfl))
  try simp only [Act.put, List.setIfInBounds_toArray, List.set_cons_zero, List.set_cons_succ]
  refine wpAnyH_ready (rs := [2]) (by kernel_rfl) (by simp) ?_
  refine AllReadyH.cons (o := { dst := some 10, op := Op.call { callee := Callee.value (Operand.tmp 8), args := #[Operand.tmp 9], argTypes := #[3] }, type := 83, pos := "cursor.go:82", after := #[{ on := 0, ground := Ground.data }, { on := 1, ground := Ground.data }], guard := none }) rfl (fun K hK => ?_) AllReadyH.nil
  go_simp
  refine upon_callv HG.out (HW.out _ hn) ?_
  rintro e wa ⟨v, rfl, hv, hna⟩
  go_wp2_with fail
  have hn := New.trans hn hna
  refine hK.out _ _ (by first | exact hn | exact Upd.alloc hn _) (fun hn => ?_)
  clear hK K
  try simp only [Act.put, List.setIfInBounds_toArray, List.set_cons_zero, List.set_cons_succ]
  refine wpAnyH_ready (rs := [8]) (by kernel_rfl) (by simp) ?_
  refine AllReadyH.cons (o := { dst := some 16, op := Op.call { callee := Callee.value (Operand.func 48), args := #[Operand.tmp 10, Operand.tmp 11, Operand.tmp 14, Operand.tmp 15, Operand.const (Value.int IntKind.i64 32)], argTypes := #[83, 42, 3, 3, 3] }, type := 4, pos := "cursor.go:82", after := #[{ on := 2, ground := Ground.data }, { on := 3, ground := Ground.data }, { on := 6, ground := Ground.data }, { on := 7, ground := Ground.data }, { on := 2, ground := Ground.chain }], guard := none }) rfl (fun K hK => ?_) AllReadyH.nil
  go_simp
  refine (HFT.out _ _ hv).mono ?_
  rintro e wb ⟨rfl, hnb⟩
  go_wp2_with fail
  have hn := New.trans hn hnb
  refine hK.out _ _ (by first | exact hn | exact Upd.alloc hn _) (fun hn => ?_)
  clear hK K
  try simp only [Act.put, List.setIfInBounds_toArray, List.set_cons_zero, List.set_cons_succ]
  refine wpAnyH_take (i := 9) (oi := { dst := some 7, op := Op.assign (Operand.tmp 16), type := 4, pos := "cursor.go:82", after := #[{ on := 8, ground := Ground.data }, { on := 8, ground := Ground.chain }, { on := 0, ground := Ground.phase }, { on := 1, ground := Ground.phase }, { on := 2, ground := Ground.phase }, { on := 3, ground := Ground.phase }, { on := 4, ground := Ground.phase }, { on := 5, ground := Ground.phase }, { on := 6, ground := Ground.phase }, { on := 7, ground := Ground.phase }, { on := 8, ground := Ground.phase }], guard := none }) (v := ?v7x8) rfl (by kernel_rfl) (by kernel_rfl) (by kernel_rfl) (fun _ _ _ h => h) (Or.inl ⟨by rfl, ?y7x8⟩) hn ?r7x8
  case y7x8 => (intro wS hS; (try go_simp); (try with_reducible rfl))
  try simp only [Act.put, List.setIfInBounds_toArray, List.set_cons_zero, List.set_cons_succ]
  refine wpAnyH_done (by kernel_rfl) ?_ _
  refine NoPanic.normal ?_
  go_wp2_with fail
  go_ret
  exact ⟨_, rfl, HAF.out, hn⟩
end Go.Proofs.Ytkfohickmdkplaa

namespace Go.Proofs.Ytkfohickmdkplaa
open Go.RowKit Go.Proofs.Leb Go.Proofs.Own Go.Proofs.Cur
set_option maxRecDepth 100000
set_option maxHeartbeats 2000000

theorem digit_or' (ds : List UInt8) (x : UInt8) (hl : ds.length ≤ 9) :
    Go.bits .or .u64 (vm ds : Int) (IntKind.u64.wrap (IntKind.u64.wrap (Go.bits .and .u8 (x.toNat : Int) 127) * 2 ^ (7 * ds.length))) = (vm (ds ++ [x]) : Int) := by
  have h := digit_or (ds ++ [x]) ds.length hl (by simp)
  rw [List.take_left, List.take_of_length_le (by simp)] at h
  rw [List.getElem_append_right (Nat.le_refl _)] at h
  simpa only [Nat.sub_self, List.getElem_cons_zero] using h
theorem vm_val {ds : List UInt8} (h : ds.length ≤ 9) : vm ds = val ds := by
  have h1 := val_lt ds
  have h2 : (128 : Nat) ^ ds.length ≤ 128 ^ 9 := Nat.pow_le_pow_right (by decide) h
  have h3 : (128 : Nat) ^ 9 = 9223372036854775808 := by decide
  exact Nat.mod_eq_of_lt (by omega)

theorem Uint1_any (ds : List UInt8) (x : UInt8) (Bw Bv Bk : Nat) (r : Int) (Gw : Nat) (cw : Array Value) (hG : Enters Gw) (W : Int → List (Nat × Nat)) (w : World) (hk : ds.length ≤ 4) (r0 : 0 ≤ r) (r1 : r ≤ 1099511627776)
    (kw : w.cell? ⟨Bw, 0, none⟩ = some (.func (.func Gw) #[] cw)) (kv : w.cell? ⟨Bv, 0, none⟩ = some (.int .u64 (vm ds : Nat))) (kk : w.cell? ⟨Bk, 0, none⟩ = some (.int .i64 ds.length))
    (hW : ∀ r' w1, New w w1 → 0 ≤ r' → r' ≤ 1099511627776 → Wants Gw cw W r' w1) (hF : ∀ r, Few (W r)) :
    Calls Try.prog 45 #[cb x, .int .i64 r, .pointer (some ⟨Bv, 0, none⟩), .pointer (some ⟨Bk, 0, none⟩), .pointer (some ⟨Bw, 0, none⟩)] w (Yes (mayU (inW W) ds x r) w) := by
  have HG := hid hG
  have HW := hid hW
  have KW := hid kw
  have KV := hid kv
  have KK := hid kk
  obtain ⟨k, hkk⟩ : ∃ k, ds.length = k := ⟨_, rfl⟩
  obtain ⟨low, hlow⟩ : ∃ low, vm (ds ++ [x]) = low := ⟨_, rfl⟩
  have hor := digit_or' ds x (by omega)
  have hval : val (ds ++ [x]) = low := by rw [← hlow, vm_val (by simp; omega)]
  have hlt : low < 128 ^ (k + 1) := by rw [← hval, ← hkk]; have := val_lt (ds ++ [x]); simpa using this
  have HMU : Hid (mayU (inW W) ds x r ↔ comes (fun more r => fits (inW W) low (k + 1) more r) x.toNat (4 - k) r) := by
    show _ ↔ _
    unfold mayU
    rw [hval, hkk]
  rw [hlow, hkk] at hor
  rw [hkk] at KK hk
  have hx := u8_lt x
  obtain ⟨v0, hv0⟩ : ∃ v0, vm ds = v0 := ⟨_, rfl⟩
  rw [hv0] at hor KV
  have e1 : IntKind.i64.wrap (7 * (k : Int)) = ((7 * k : Nat) : Int) := by rw [IntWalk.i64_in _ (by omega)]; omega
  have HOR := hid hor
  have E1 := hid e1
  have HLT := hid hlt
  have hn : New w w.drew := (Upd.refl _ _).drew
  clear hW hG kw kv kk hkk hlow hval hlt hor hv0 e1
  unfold cb
  go_enter Try.func45, Try.ntmps45
  go_wp2_with fail
  have e1 := E1.out
  have hor := HOR.out
  go_cut [8] (fun p wx => ∃ g, p = .pointer (some ⟨g, 0, none⟩) ∧ New w wx ∧ One1 wx g (.int .u64 low))
  case first =>
    refine wp_region_noPanic ?_
    refine wp_region_held_drew (S := (New w)) (by kernel_rfl) (by first | exact hn | exact (Upd.refl _ _).drew | exact Upd.drew (by assumption)) (fun hn => ?_)
    generalize w.drew = wd at *
    refine wpAnyH_take (i := 0) (oi := { dst := some 9, op := Op.load 42 (Operand.tmp 2), type := 42, pos := "cursor.go:80", after := #[], guard := none }) (v := ?v8x1) rfl (by kernel_rfl) (by kernel_rfl) (by kernel_rfl) (fun _ _ _ h => h) (Or.inl ⟨by rfl, ?y8x1⟩) hn ?r8x1
    case y8x1 => (intro wS hS; have c := hS.cell KV.out (fun h => h); (try go_simp); (try with_reducible rfl))
    try simp only [Act.put, List.setIfInBounds_toArray, List.set_cons_zero, List.set_cons_succ]
    refine wpAnyH_take (i := 1) (oi := { dst := some 10, op := Op.move (Operand.tmp 0), type := 5, pos := "cursor.go:80", after := #[], guard := none }) (v := ?v8x2) rfl (by kernel_rfl) (by kernel_rfl) (by kernel_rfl) (fun _ _ _ h => h) (Or.inl ⟨by rfl, ?y8x2⟩) hn ?r8x2
    case y8x2 => (intro wS hS; (try go_simp); (try with_reducible rfl))
    try simp only [Act.put, List.setIfInBounds_toArray, List.set_cons_zero, List.set_cons_succ]
    refine wpAnyH_take (i := 2) (oi := { dst := some 11, op := Op.binOp BinOp.and 5 (Operand.tmp 10) (Operand.const (Value.int IntKind.u8 127)) 5, type := 5, pos := "cursor.go:80", after := #[{ on := 1, ground := Ground.data }], guard := none }) (v := ?v8x3) rfl (by kernel_rfl) (by kernel_rfl) (by kernel_rfl) (fun _ _ _ h => h) (Or.inl ⟨by rfl, ?y8x3⟩) hn ?r8x3
    case y8x3 => (intro wS hS; (try go_simp); (try with_reducible rfl))
    try simp only [Act.put, List.setIfInBounds_toArray, List.set_cons_zero, List.set_cons_succ]
    refine wpAnyH_take (i := 3) (oi := { dst := some 12, op := Op.convert 5 42 (Operand.tmp 11), type := 42, pos := "cursor.go:80", after := #[{ on := 2, ground := Ground.data }], guard := none }) (v := ?v8x4) rfl (by kernel_rfl) (by kernel_rfl) (by kernel_rfl) (fun _ _ _ h => h) (Or.inl ⟨by rfl, ?y8x4⟩) hn ?r8x4
    case y8x4 => (intro wS hS; (try go_simp); (try with_reducible rfl))
    try simp only [Act.put, List.setIfInBounds_toArray, List.set_cons_zero, List.set_cons_succ]
    refine wpAnyH_take (i := 4) (oi := { dst := some 13, op := Op.load 3 (Operand.tmp 3), type := 3, pos := "cursor.go:80", after := #[], guard := none }) (v := ?v8x5) rfl (by kernel_rfl) (by kernel_rfl) (by kernel_rfl) (fun _ _ _ h => h) (Or.inl ⟨by rfl, ?y8x5⟩) hn ?r8x5
    case y8x5 => (intro wS hS; have c := hS.cell KK.out (fun h => h); (try go_simp); (try with_reducible rfl))
    try simp only [Act.put, List.setIfInBounds_toArray, List.set_cons_zero, List.set_cons_succ]
    refine wpAnyH_take (i := 5) (oi := { dst := some 14, op := Op.binOp BinOp.mul 3 (Operand.const (Value.int IntKind.i64 7)) (Operand.tmp 13) 3, type := 3, pos := "cursor.go:80", after := #[{ on := 4, ground := Ground.data }], guard := none }) (v := ?v8x6) rfl (by kernel_rfl) (by kernel_rfl) (by kernel_rfl) (fun _ _ _ h => h) (Or.inl ⟨by rfl, ?y8x6⟩) hn ?r8x6
    case y8x6 => (intro wS hS; (try go_simp); (try with_reducible rfl))
    try simp only [Act.put, List.setIfInBounds_toArray, List.set_cons_zero, List.set_cons_succ]
    refine wpAnyH_take (i := 6) (oi := { dst := some 15, op := Op.binOp BinOp.shl 42 (Operand.tmp 12) (Operand.tmp 14) 3, type := 42, pos := "cursor.go:80", after := #[{ on := 3, ground := Ground.data }, { on := 5, ground := Ground.data }], guard := none }) (v := ?v8x7) rfl (by kernel_rfl) (by kernel_rfl) (by kernel_rfl) (fun _ _ _ h => h) (Or.inl ⟨by rfl, ?y8x7⟩) hn ?r8x7
    case y8x7 => (intro wS hS; (try go_simp); (try with_reducible rfl))
    try simp only [Act.put, List.setIfInBounds_toArray, List.set_cons_zero, List.set_cons_succ]
    refine wpAnyH_take (i := 7) (oi := { dst := some 16, op := Op.binOp BinOp.or 42 (Operand.tmp 9) (Operand.tmp 15) 42, type := 42, pos := "cursor.go:80", after := #[{ on := 0, ground := Ground.data }, { on := 6, ground := Ground.data }], guard := none }) (v := ?v8x8) rfl (by kernel_rfl) (by kernel_rfl) (by kernel_rfl) (fun _ _ _ h => h) (Or.inl ⟨by rfl, ?y8x8⟩) hn ?r8x8
    case y8x8 => (intro wS hS; (try go_simp); (try with_reducible rfl))
    try simp only [Act.put, List.setIfInBounds_toArray, List.set_cons_zero, List.set_cons_succ]
    refine wpAnyH_ready (rs := [8]) (by kernel_rfl) (by simp) ?_
    refine AllReadyH.cons (o := { dst := some 8, op := Op.alloc 42, type := 0, pos := "cursor.go:80", after := #[], guard := none }) rfl (fun K hK => ?_) AllReadyH.nil
    go_simp
    refine absN hn ?_ hn.size
    intro g8 hg8 hf8
    rw [hg8] at hf8 ⊢
    refine alloc1Step hn ?_
    intro W2 hu hn hz8
    rw [hg8] at hz8
    clear hg8 hu
    refine hK.out _ _ (by first | exact hn | exact Upd.alloc hn _) (fun hn => ?_)
    clear hK K
    try simp only [Act.put, List.setIfInBounds_toArray, List.set_cons_zero, List.set_cons_succ]
    refine wpAnyH_ready (rs := [9]) (by kernel_rfl) (by simp) ?_
    refine AllReadyH.cons (o := { dst := none, op := Op.store 42 (Operand.tmp 8) (Operand.tmp 16), type := 0, pos := "cursor.go:80", after := #[{ on := 8, ground := Ground.data }, { on := 7, ground := Ground.data }, { on := 0, ground := Ground.phase }, { on := 1, ground := Ground.phase }, { on := 2, ground := Ground.phase }, { on := 3, ground := Ground.phase }, { on := 4, ground := Ground.phase }, { on := 5, ground := Ground.phase }, { on := 6, ground := Ground.phase }, { on := 7, ground := Ground.phase }, { on := 8, ground := Ground.phase }], guard := none }) rfl (fun K hK => ?_) AllReadyH.nil
    have z0 := hz8.c
    have f0 := hz8.f
    go_simp
    refine store1Step hn hz8 hf8 ?_
    clear z0 f0
    intro W2 hn hz8' hO
    clear hO hz8
    have hz8 := hz8'
    refine hK.out _ _ (by first | exact hn | exact Upd.alloc hn _) (fun hn => ?_)
    clear hK K
    try simp only [Act.put, List.setIfInBounds_toArray, List.set_cons_zero, List.set_cons_succ]
    refine wpAnyH_done (by kernel_rfl) ?_ _
    refine NoPanic.normal ?_
    rw [show (7 * (k : Int)).toNat = 7 * k by omega, HOR.out] at hz8
    go_wp2_with fail
    go_meet
    exact ⟨g8, rfl, hn, hz8⟩
  case rest =>
    obtain ⟨g, rfl, hw, hz⟩ := hcut
    obtain ⟨w1, rfl⟩ : ∃ w1, w1 = wc := ⟨_, rfl⟩
    have HN1 := hid hw
    have HZ1 := hid hz
    have HK1 := hid (hw.cell KK.out (fun h => h))
    have HWW1 := hid (hw.cell KW.out (fun h => h))
    have hc := comes_any x.toNat (4 - k) r 47 #[.pointer (some ⟨Bw, 0, none⟩), .pointer (some ⟨g, 0, none⟩), .pointer (some ⟨Bk, 0, none⟩)] (fun _ _ => rfl) (fun more r => fits (inW W) low (k + 1) more r) w1 hx (by omega) r0 r1
      (fun j r' w2 hn2 hj hr0 hr1 _ => Uint11_any j k low Bw g Bk r' Gw cw HG.out W w2 (by omega) hk HLT.out (hn2.cell HWW1.out (fun h => h)) (hz.new hn2).c (hn2.cell HK1.out (fun h => h))
        (fun w3 hn3 => HW.out r' w3 (New.trans (New.trans hw hn2) hn3) hr0 hr1) (hF r'))
    have e4 : (4 : Int) - (k : Int) = ((4 - k : Nat) : Int) := by omega
    have HC := hid hc
    have HF := hid hF
    clear hc hw hz hF hor e1 hn
    have hkc := HK1.out
    go_wp2_with fail
    refine HC.out.mono ?_
    rintro e w2 ⟨b, rfl, hb, hn2⟩
    have HB := hid hb
    clear hb
    go_wp2_with fail
    go_ret
    exact ⟨b, rfl, HB.out.trans HMU.out.symm, New.trans HN1.out hn2⟩
end Go.Proofs.Ytkfohickmdkplaa

namespace Go.Proofs.Ytkfohickmdkplaa
open Go.RowKit Go.Proofs.Leb Go.Proofs.Own Go.Proofs.Cur
set_option maxRecDepth 100000
set_option maxHeartbeats 4000000

theorem numO_step {bs : List UInt8} {lim : Int} {may : List UInt8 → UInt8 → Int → Prop} {n : Nat} {ds : List UInt8} {p : Nat} :
    numO bs lim may (n + 1) ds p = (byteO bs lim (may ds) p).bind fun x q => if x.toNat < 128 then .ok (ds ++ [x]) q else numO bs lim may n (ds ++ [x]) q := rfl
theorem byteO_ok {bs : List UInt8} {lim : Int} {may : UInt8 → Int → Prop} {p q : Nat} {x : UInt8} (h : byteO bs lim may p = .ok x q) :
    q = p + 1 ∧ p < bs.length ∧ rest lim p ≠ 0 ∧ bs[p]? = some x ∧ may x (rest lim (p + 1)) := by
  unfold byteO at h
  split at h
  · cases h
  · split at h
    · rename_i h1 h2
      split at h
      · cases h
        exact ⟨rfl, h2, h1, List.getElem?_eq_getElem h2, by assumption⟩
      · cases h
    · cases h
theorem byteO_inv {bs : List UInt8} {lim : Int} {may : UInt8 → Int → Prop} {p q : Nat} {x : UInt8} (hi : Inv bs.length lim p) (h : byteO bs lim may p = .ok x q) : Inv bs.length lim q := by
  obtain ⟨rfl, h1, h2, -⟩ := byteO_ok h
  exact hi.next h2 h1

def UintV (ds : List UInt8) : Value := .int .u32 (val ds % 4294967296 : Nat)

structure UInv (C : Nat) (v : Value) (bs : List UInt8) (lim : Int) (S : Int → Nat → Prop) (O : Out (List UInt8)) (want : Value) (w : World) (ds : List UInt8) (xv g q : Nat) (wr : World) : Prop where
  up : Upd (· = C) w wr
  cur : Cur wr C v bs q lim 0
  inv : Inv bs.length lim q
  kg : One1 wr g (.int .i64 ds.length)
  kv : One1 wr (w.heap.size + 1) (.int .u64 (vm ds : Nat))
  kw : One1 wr w.heap.size want
  ge : w.heap.size + 1 < g
  len : ds.length ≤ 5
  go : 128 ≤ xv → ds.length ≤ 4 ∧ numO bs lim (mayU S) (5 - ds.length) ds q = O
  st : xv < 128 → O = .ok ds q

theorem Uint_any {w : World} {C : Nat} {v : Value} {bs : List UInt8} {p : Nat} {lim : Int} (h : Cur w C v bs p lim 0) (hi : Inv bs.length lim p) (Gw : Nat) (cw : Array Value) (hG : Enters Gw)
    (W : Int → List (Nat × Nat)) (hW : ∀ r' w1, Upd (· = C) w w1 → 0 ≤ r' → r' ≤ 1099511627776 → Wants Gw cw W r' w1) (hF : ∀ r, Few (W r)) :
    Calls Try.prog 21 #[.pointer (some ⟨C, 0, none⟩), .func (.func Gw) #[] cw] w (Got C v bs lim UintV (uintO bs lim (inW W) p) w) := by
  have HG := hid hG
  have HW := hid hW
  have HF := hid hF
  have HI := hid hi
  have H0 := hid h
  have hC := h.lt
  obtain ⟨O, hO⟩ : ∃ O, uintO bs lim (inW W) p = O := ⟨_, rfl⟩
  have HO := hid hO
  rw [hO]
  clear hG hW hF hi h hO
  go_enter Try.func21, Try.ntmps21
  go_wp2_with fail
  have i0 : UInv C v bs lim (inW W) O (.func (.func Gw) #[] cw) w [] 128 (w.heap.size + 1 + 1) p (((w.alloc (.cells #[.func (.func Gw) #[] cw] 65)).alloc (.cells #[.int .u64 0] 42)).alloc (.cells #[.int .i64 0] 3)) := by
    refine ⟨(((Upd.refl _ _).alloc _).alloc _).alloc _, H0.out.new ((((Upd.refl _ _).alloc _).alloc _).alloc _), HI.out, .mk (by simp), (One1.mk (by simp)).push _, ((One1.mk rfl).push _).push _, by omega, by simp, fun _ => ⟨by simp, HO.out⟩, fun h => absurd h (by decide)⟩
  generalize ((w.alloc (.cells #[.func (.func Gw) #[] cw] 65)).alloc (.cells #[.int .u64 0] 42)).alloc (.cells #[.int .i64 0] 3) = w0 at *
  have I0 := hid i0
  clear i0
  go_loopg [6, 7, 8, 9] 6 (fun n kp x _ _ wr => ∃ (ds : List UInt8) (xv g q : Nat), n = 6 - ds.length ∧ kp = .pointer (some ⟨g, 0, none⟩) ∧ x = .int .u8 xv ∧ UInv C v bs lim (inW W) O (.func (.func Gw) #[] cw) w ds xv g q wr)
  case atStart => exact ⟨[], 128, _, p, rfl, rfl, rfl, I0.out⟩
  case round =>
    obtain ⟨ds, xv, g, q, rfl, rfl, rfl, hi⟩ := hrel
    have IR := hid hi
    clear hi I0
    by_cases h128 : 128 ≤ xv
    · obtain ⟨hl4, hnum⟩ := IR.out.go h128
      have hd : decide ((128 : Int) ≤ (xv : Int)) = true := by simp; omega
      obtain ⟨k, hk⟩ : ∃ k, ds.length = k := ⟨_, rfl⟩
      obtain ⟨n, hn⟩ : ∃ n, 5 - k = n + 1 := ⟨4 - k, by omega⟩
      rw [hk, hn, numO_step] at hnum
      have HNUM := hid hnum
      have HK := hid hk
      have HNN := hid hn
      rw [hk] at hl4
      have HB := hid (Byte_any IR.out.cur IR.out.inv 45 #[.pointer (some ⟨w.heap.size + 1, 0, none⟩), .pointer (some ⟨g, 0, none⟩), .pointer (some ⟨w.heap.size, 0, none⟩)] (fun _ _ => rfl) (mayU (inW W) ds)
        (fun hp w1 hu hc r0 r1 => Uint1_any ds bs[q] w.heap.size (w.heap.size + 1) g (rest lim (q + 1)) Gw cw HG.out W w1 (by rw [hk]; exact hl4) r0 r1 (IR.out.kw.upd hu (by omega)).c (IR.out.kv.upd hu (by omega)).c
          (IR.out.kg.upd hu (by have := IR.out.ge; omega)).c (fun r' w2 hn2 h0 h1 => HW.out r' w2 ((IR.out.up.trans hu (fun _ _ h => h)).thenNew hn2) h0 h1) HF.out))
      clear hnum hk hn
      have hmf : ∀ (fn : Fn) (first cap : Array Value) (w : World), (Instr.makeFunc fn first cap).run Try.prog w = .ok (.func fn first cap) w := fun _ _ _ _ => rfl
      go_wp2_with fail
      refine HB.out.mono ?_
      rintro e w4 ⟨hu4, hm4⟩
      have HU4 := hid hu4
      cases ho : byteO bs lim (mayU (inW W) ds) q with
      | up q' er =>
        rw [ho] at hm4
        obtain ⟨rfl, hc4⟩ := hm4
        have HO4 : Hid (O = .up q' er) := by show _ = _; rw [← HNUM.out, ho]; rfl
        have HC4 := hid hc4
        clear ho hc4 hu4 HNUM
        go_wp2_with fail
        exact ⟨rfl, Got.mk_up HO4.out (IR.out.up.trans HU4.out (fun _ _ h => h)) rfl HC4.out⟩
      | ok x q' =>
        rw [ho] at hm4
        obtain ⟨rfl, hc4⟩ := hm4
        have hbi := byteO_inv IR.out.inv ho
        have hbo := byteO_ok ho
        have HNUM4 : Hid ((if x.toNat < 128 then Out.ok (ds ++ [x]) q' else numO bs lim (mayU (inW W)) n (ds ++ [x]) q') = O) := by
          show _ = _
          rw [← HNUM.out, ho]; rfl
        have HBI := hid hbi
        have HBO := hid hbo
        have HC4 := hid hc4
        have kg4 := IR.out.kg.upd hu4 (by have := IR.out.ge; omega)
        have kv4 := IR.out.kv.upd hu4 (by omega)
        have kw4 := IR.out.kw.upd hu4 (by omega)
        rw [HK.out] at kg4
        have hor := digit_or' ds x (by rw [HK.out]; omega)
        rw [HK.out] at hor
        obtain ⟨v0, hv0⟩ : ∃ v0, vm ds = v0 := ⟨_, rfl⟩
        obtain ⟨v1, hv1⟩ : ∃ v1, vm (ds ++ [x]) = v1 := ⟨_, rfl⟩
        rw [hv0] at kv4 hor
        rw [hv1, show 7 * k = (7 * (k : Int)).toNat by omega] at hor
        have e1 : IntKind.i64.wrap (7 * (k : Int)) = 7 * (k : Int) := IntWalk.i64_in _ (by omega)
        have HV1 := hid hv1
        have zg := kg4.c
        have zv := kv4.c
        have fv := kv4.f
        have hx := u8_lt x
        have HKG := hid kg4
        have HKV := hid kv4
        have HKW := hid kw4
        have hge := IR.out.ge
        clear ho hc4 hu4 hbi hbo kg4 kv4 kw4 hv0 hv1 HNUM
        unfold cb
        go_wp2_with fail
        go_still_tail 8, (by kernel_rfl)
        have kg5 : One1 w4.drew g (.int .i64 k) := HKG.out
        have kv5 : One1 w4.drew (w.heap.size + 1) (.int .u64 v0) := HKV.out
        have kw5 : One1 w4.drew w.heap.size (.func (.func Gw) #[] cw) := HKW.out
        have c5 : Cur w4.drew C v bs q' lim 0 := HC4.out.new ((Upd.refl _ _).drew)
        have u5 : Upd (· = C) w w4.drew := (IR.out.up.trans HU4.out (fun _ _ h => h)).drew
        change wpList _ _ _ _ _ w4.drew
        generalize w4.drew = w5 at *
        have kv6 : One1 (w5.setCell ⟨w.heap.size + 1, 0, none⟩ (.int .u64 v1)) (w.heap.size + 1) (.int .u64 v1) := kv5.put
        have kg6 : One1 (w5.setCell ⟨w.heap.size + 1, 0, none⟩ (.int .u64 v1)) g (.int .i64 k) := kg5.other (by simp; omega)
        have kw6 : One1 (w5.setCell ⟨w.heap.size + 1, 0, none⟩ (.int .u64 v1)) w.heap.size (.func (.func Gw) #[] cw) := kw5.other (by simp)
        have u6 : Upd (· = C) w (w5.setCell ⟨w.heap.size + 1, 0, none⟩ (.int .u64 v1)) := u5.setCell (.inl (by simp)) _
        have b6 : (w5.setCell ⟨w.heap.size + 1, 0, none⟩ (.int .u64 v1)).heap[C]? = w5.heap[C]? := Below.heap_setCell _ _ _ _ (by simp; omega)
        have c6 : Cur (w5.setCell ⟨w.heap.size + 1, 0, none⟩ (.int .u64 v1)) C v bs q' lim 0 := H0.out.upd1 u6 (b6.trans c5.blk)
        obtain ⟨w6, h6⟩ : ∃ w6, w5.setCell ⟨w.heap.size + 1, 0, none⟩ (.int .u64 v1) = w6 := ⟨_, rfl⟩
        rw [h6] at kv6 kg6 kw6 u6 c6
        have zv5 := kv5.c
        have fv5 := kv5.f
        have zg6 := kg6.c
        have KV6 := hid kv6
        have KW6 := hid kw6
        have U6 := hid u6
        have C6 := hid c6
        clear kg5 kv5 kw5 c5 u5 kv6 kg6 kw6 u6 c6 b6 zv zg fv hor e1
        go_wp2_with fail
        go_roundg (6 - (k + 1))
        case measure => rw [HK.out]; omega
        case rel =>
          have hlen : (ds ++ [x]).length = k + 1 := by rw [List.length_append, HK.out]; rfl
          refine ⟨ds ++ [x], x.toNat, w6.heap.size, q', by rw [hlen], rfl, rfl, ?_⟩
          refine ⟨U6.out.alloc _, C6.out.new ((Upd.refl _ _).alloc _), HBI.out, ?_, ?_, KW6.out.push _, ?_, by rw [hlen]; omega, ?_, ?_⟩
          · rw [hlen]; exact One1.mk rfl
          · rw [HV1.out]; exact KV6.out.push _
          · exact KV6.out.lt
          · intro h
            have h4 : k < 4 := by
              rcases Nat.lt_or_ge k 4 with h' | h'
              · exact h'
              · have := mayU_last (by rw [HK.out]; exact h') HBO.out.2.2.2.2
                omega
            rw [hlen]
            refine ⟨by omega, ?_⟩
            have := HNUM4.out
            rw [if_neg (by omega)] at this
            rw [show 5 - (k + 1) = n by have := HNN.out; omega]
            exact this
          · intro h
            have := HNUM4.out
            rw [if_pos h] at this
            exact this.symm
    · have hd : decide ((128 : Int) ≤ (xv : Int)) = false := by simp; omega
      have hst := IR.out.st (by omega)
      have HST := hid hst
      have zv := IR.out.kv.c
      obtain ⟨v0, hv0⟩ : ∃ v0, vm ds = v0 := ⟨_, rfl⟩
      have hv1 : v0 = val ds := by rw [← hv0]; exact vm_val (by have := IR.out.len; omega)
      rw [hv0] at zv
      have HV1 := hid hv1
      clear hst hv0 hv1
      go_wp2_with fail
      go_ret
      refine Got.mk_ok HST.out IR.out.up ?_ IR.out.cur
      rw [HV1.out]
      unfold UintV
      first | rfl | (congr 2; omega)
end Go.Proofs.Ytkfohickmdkplaa

namespace Go.Proofs.Ytkfohickmdkplaa
open Go.RowKit Go.Proofs.Leb Go.Proofs.Own Go.Proofs.Cur
set_option maxRecDepth 100000
set_option maxHeartbeats 4000000

theorem beh_iff {may : Int → Nat → Prop} (hneg : ∀ r n, may r n → 0 ≤ r) {lim : Int} {q low k j : Nat} (hq : lim = -1 ∨ rest lim q < 1099511627776) :
    fits may low k j (behD lim q j) ↔ (j : Int) ≤ rest lim q ∧ fits may low k j (behind (rest lim q) j) ∨ (lim = -1 ∧ fits may low k j (behD lim q j)) := by
  rcases hq with rfl | hq
  · simp only [true_and]
    constructor
    · intro h; exact .inr h
    · rintro (⟨_, h⟩ | h)
      · have e : behind (rest (-1) q) j = behD (-1) q j := by unfold behind behD rest; simp
        rw [e] at h; exact h
      · exact h
  · by_cases hl : lim = -1
    · subst hl; unfold rest at hq; simp at hq
    · have e : behD lim q j = rest lim q - j := by unfold behD; rw [if_neg hl]
      have e2 : behind (rest lim q) j = rest lim q - j := by unfold behind; rw [if_pos hq]
      rw [e, e2]
      constructor
      · intro h
        refine .inl ⟨?_, h⟩
        obtain ⟨n, hn, _⟩ := h
        have := hneg _ _ hn
        omega
      · rintro (⟨_, h⟩ | ⟨h, _⟩)
        · exact h
        · exact (hl h).elim

theorem may_neg (x : Wnt) (r : Int) (n : Nat) (h : x.may r n) : 0 ≤ r := h.1
/-- a digit that has others behind it, as the document asks -/
theorem open_iff (x : Wnt) {lim : Int} {q : Nat} (hq : lim = -1 ∨ (0 ≤ rest lim q ∧ rest lim q < 1099511627776)) (ds : List UInt8) (b : UInt8) (hb : ¬ b.toNat < 128) :
    mayU x.may ds b (rest lim q) ↔ ∃ j, 1 ≤ j ∧ j < 5 - ds.length ∧ fits x.may (val (ds ++ [b])) (ds.length + 1) j (behD lim q j) := by
  unfold mayU comes
  rw [if_neg hb]
  constructor
  · rintro ⟨j, h1, h2, h3, h4⟩
    refine ⟨j, h1, by omega, ?_⟩
    rcases hq with rfl | hq
    · have e : behind (rest (-1) q) j = behD (-1) q j := by unfold behind behD rest; simp
      rw [← e]; exact h4
    · rw [beh_iff (may_neg x) (.inr hq.2)]
      exact .inl ⟨h3, h4⟩
  · rintro ⟨j, h1, h2, h3⟩
    refine ⟨j, h1, by omega, ?_⟩
    rcases hq with rfl | hq
    · have e : behind (rest (-1) q) j = behD (-1) q j := by unfold behind behD rest; simp
      refine ⟨by unfold rest; simp; omega, by rw [e]; exact h3⟩
    · rw [beh_iff (may_neg x) (.inr hq.2)] at h3
      rcases h3 with h3 | ⟨rfl, _⟩
      · exact h3
      · unfold rest at hq; simp at hq
theorem shut_iff (x : Wnt) (r : Int) (ds : List UInt8) (b : UInt8) (hb : b.toNat < 128) : mayU x.may ds b r ↔ x.may r (val (ds ++ [b])) := by
  unfold mayU comes
  rw [if_pos hb]
  have hlt : val (ds ++ [b]) < 128 ^ (ds.length + 1) := by have := val_lt (ds ++ [b]); simpa using this
  refine (fits_zero hlt).trans ⟨fun h => h.1, fun h => ⟨h, h.2.1⟩⟩

theorem WantOk.upd {S : Nat → Prop} {x : Wnt} {pv : Value} {w w' : World} (h : WantOk x pv w) (hu : Upd S w w') (hv : x.picks ≠ [] → ∀ k, pv.ownBlock = some k → ¬ S k) : WantOk x pv w' := ⟨h.fine, h.kind, h.rd.upd hu hv, h.few, h.pos, h.num⟩
theorem nextO_er {bs : List UInt8} {lim : Int} {p q er : Nat} (h : nextO bs lim p = .up q er) : er ≠ 0 := by
  unfold nextO at h
  split at h
  · cases h; decide
  · split at h
    · cases h
    · cases h; decide
theorem nextO_ok {bs : List UInt8} {lim : Int} {p q : Nat} {x : UInt8} (h : nextO bs lim p = .ok x q) : q = p + 1 ∧ p < bs.length ∧ rest lim p ≠ 0 := by
  unfold nextO at h
  split at h
  · cases h
  · split at h
    · cases h; exact ⟨rfl, by assumption, by assumption⟩
    · cases h
theorem numO_next {bs : List UInt8} {lim : Int} {may : List UInt8 → UInt8 → Int → Prop} {n : Nat} {ds : List UInt8} {p : Nat} : (∀ q er, nextO bs lim p = .up q er → numO bs lim may (n + 1) ds p = .up q er) ∧
    (∀ x q, nextO bs lim p = .ok x q → (may ds x (rest lim q) → numO bs lim may (n + 1) ds p = if x.toNat < 128 then .ok (ds ++ [x]) q else numO bs lim may n (ds ++ [x]) q) ∧ (¬ may ds x (rest lim q) → numO bs lim may (n + 1) ds p = .up p 2)) := by
  constructor
  · intro q er h
    rw [numO_step, byte_next, h]; rfl
  · intro x q h
    constructor
    · intro hm
      rw [numO_step, byte_next, h]
      simp only
      rw [if_pos hm]; rfl
    · intro hm
      rw [numO_step, byte_next, h]
      simp only
      rw [if_neg hm]; rfl

/-- the inner loop: does any number of further bytes serve? -/
def Opens (x : Wnt) (lim : Int) (q low k : Nat) (j : Nat) : Prop := ∃ i, 1 ≤ i ∧ i < j ∧ fits x.may low k i (behD lim q i)

structure RInv (R : Nat) (B : ByteArray) (lim : Int) (x : Wnt) (O : Out (List UInt8)) (w : World) (Bw : Nat) (cs : Array Value) (ds : List UInt8) (wr : World) : Prop where
  up : Upd (· = R) w wr
  bx : wr.heap[Bw]? = some (.cells cs 47)
  st : (∃ q, Rdr wr R B q lim 0 0 ∧ Inv B.size lim q ∧ ds.length ≤ 4 ∧ numO B.data.toList lim (mayU x.may) (5 - ds.length) ds q = O) ∨ (∃ p' er sp, er ≠ 0 ∧ Rdr wr R B p' lim er sp ∧ O = .up sp er ∧ ds.length ≤ 5)

structure SR (a : World) (R Bw q : Nat) (cs : Array Value) (w' : World) : Prop where
  up : Upd (· = R) a w'
  c1 : w'.cell? ⟨R, 1, none⟩ = some (.int .i64 q)
  bx : w'.heap[Bw]? = some (.cells cs 47)
theorem SR.upd {a b c : World} {R Bw q : Nat} {cs : Array Value} (h : SR a R Bw q cs b) (hu : Upd (· = R) b c) (hne : Bw ≠ R) (h1 : c.cell? ⟨R, 1, none⟩ = some (.int .i64 q)) : SR a R Bw q cs c :=
  ⟨h.up.trans hu (fun _ _ h => h), h1, (hu.block _ (Array.getElem?_eq_some_iff.1 h.bx).1 hne).trans h.bx⟩
theorem SR.new {a b c : World} {R Bw q : Nat} {cs : Array Value} (h : SR a R Bw q cs b) (hn : New b c) : SR a R Bw q cs c :=
  ⟨h.up.thenNew hn, hn.cell h.c1 (fun h => h), (hn.block _ (Array.getElem?_eq_some_iff.1 h.bx).1 (fun h => h)).trans h.bx⟩

theorem rUint_any {w : World} {R : Nat} {B : ByteArray} {p : Nat} {lim : Int} (h : Rdr w R B p lim 0 0) (hi : Inv B.size lim p) (x : Wnt) (pv : Value) (hx : WantOk x pv w) (hpv : x.picks ≠ [] → ∀ k, pv.ownBlock = some k → k ≠ R) :
    Calls Try.prog 32 #[.pointer (some ⟨R, 0, none⟩), .agg (valW x pv)] w (RGot R B lim UintV (uintO B.data.toList lim x.may p) w) := by
  have HI := hid hi
  have H0 := hid h
  have HX := hid hx
  have HPV := hid hpv
  have hR := h.lt
  obtain ⟨O, hO⟩ : ∃ O, uintO B.data.toList lim x.may p = O := ⟨_, rfl⟩
  have HO := hid hO
  rw [hO]
  clear hi h hx hpv hO
  go_enter Try.func32, Try.ntmps32
  go_wp2_with fail
  have hnb : New w (w.alloc (.cells (valW x pv) 47)) := (Upd.refl _ _).alloc _
  have i0 : RInv R B lim x O w w.heap.size (valW x pv) [] (w.alloc (.cells (valW x pv) 47)) :=
    ⟨New.upd hnb, hp_new rfl, .inl ⟨p, H0.out.new hnb, HI.out, by simp, HO.out⟩⟩
  generalize w.alloc (.cells (valW x pv) 47) = w1 at *
  have I0 := hid i0
  clear i0 hnb
  go_loopg [5, 6, 7, 8, 9] 6 (fun k a b _ _ _ wr => ∃ ds : List UInt8, k = 6 - ds.length ∧ a = .int .u64 (val ds) ∧ b = .int .i64 ds.length ∧ RInv R B lim x O w w.heap.size (valW x pv) ds wr)
  case atStart => exact ⟨[], rfl, rfl, rfl, I0.out⟩
  case round =>
    obtain ⟨ds, rfl, rfl, rfl, hinv⟩ := hrel
    have IR := hid hinv
    clear hinv I0
    rcases IR.out.st with ⟨q, hq, hiq, hl4, hnum⟩ | ⟨p', er, sp, he, hr, ho, hl5⟩
    · obtain ⟨i, hi⟩ : ∃ i, ds.length = i := ⟨_, rfl⟩
      obtain ⟨v, hv⟩ : ∃ v, val ds = v := ⟨_, rfl⟩
      have hvlt : v < 128 ^ i := by rw [← hv, ← hi]; exact val_lt ds
      have hvb : v < 34359738368 := by
        have : (128 : Nat) ^ i ≤ 128 ^ 5 := Nat.pow_le_pow_right (by decide) (by omega)
        have h5 : (128 : Nat) ^ 5 = 34359738368 := by decide
        omega
      obtain ⟨n, hn⟩ : ∃ n, 5 - i = n + 1 := ⟨4 - i, by omega⟩
      rw [hi, hn] at hnum
      rw [hi] at hl4
      rw [hi, hv]
      have HNX := hid (rNext_any hq hiq)
      have HNUM := hid hnum
      have HII := hid hi
      have HVV := hid hv
      have HNN := hid hn
      have HIQ := hid hiq
      have NU := hid (numO_next (bs := B.data.toList) (lim := lim) (may := mayU x.may) (n := n) (ds := ds) (p := q))
      clear hnum hi hv hn hq hiq hvlt
      go_wp2_with fail
      refine HNX.out.mono ?_
      rintro e w2 ⟨hu2, hm2⟩
      have U2 := hid (IR.out.up.trans hu2 (fun _ _ h => h))
      cases ho : nextO B.data.toList lim q with
      | up q' er =>
        rw [ho] at hm2
        obtain ⟨a, p', rfl, hr2⟩ := hm2
        have HOU : Hid (O = .up q' er) := by show _ = _; rw [← HNUM.out]; exact NU.out.1 _ _ ho
        have hne := nextO_er ho
        have c3 := hr2.c3
        have hb : ((er : Int) != 0) = true := by rw [bne_iff_ne]; omega
        have HR2 := hid hr2
        clear ho hr2 hu2
        unfold cb
        go_wp2_with fail
        go_ret
        exact RGot.mk_up [] HOU.out U2.out rfl HR2.out
      | ok b q' =>
        rw [ho] at hm2
        obtain ⟨rfl, hr2⟩ := hm2
        have c3 := hr2.c3
        have hno := nextO_ok ho
        have NUB := hid (NU.out.2 _ _ ho)
        obtain ⟨hq1, hlt, hr0⟩ := hno
        have hiq' := HIQ.out.next hr0 (by rw [← size_list]; exact hlt)
        rw [← hq1] at hiq'
        have HQ1 := hid hq1
        have HIQ2 := hid hiq'
        have HR2 := hid hr2
        have hbx2 : w2.heap[w.heap.size]? = some (.cells (valW x pv) 47) := (hu2.block _ (Array.getElem?_eq_some_iff.1 IR.out.bx).1 (by omega)).trans IR.out.bx
        have HBX2 := hid hbx2
        have HW2 := hid (HX.out.upd U2.out (fun hne k hk => HPV.out hne k hk))
        have hrl : Hid (lim = -1 ∨ (0 ≤ rest lim q' ∧ rest lim q' < 1099511627776)) := by
          have h1 := HIQ.out.lim
          have h2 := hiq'.rest
          rcases h1 with h1 | h1
          · exact .inl h1
          · refine .inr ⟨h2.1, ?_⟩
            rw [hq1]
            unfold rest
            split <;> omega
        clear ho hr2 hu2 hiq' hbx2 hlt hr0 hq1
        obtain ⟨s, hs⟩ : ∃ s, val (ds ++ [b]) = s := ⟨_, rfl⟩
        obtain ⟨P, hP⟩ : ∃ P, 128 ^ i = P := ⟨_, rfl⟩
        obtain ⟨t, ht⟩ : ∃ t, b.toNat % 128 * P = t := ⟨_, rfl⟩
        have hst : v + t = s := by
          have := val_append ds [b]
          rw [hs, HVV.out, HII.out, hP] at this
          rw [this, ← ht, Nat.mul_comm]
          simp [val]
        have hsl : Hid (s < 128 ^ (i + 1)) := by
          have := val_lt (ds ++ [b])
          rw [hs] at this
          have hl : (ds ++ [b]).length = i + 1 := by rw [List.length_append, HII.out]; rfl
          rw [hl] at this
          exact this
        have hsb : s < 34359738368 := by
          have h1 := hsl.out
          have : (128 : Nat) ^ (i + 1) ≤ 128 ^ 5 := Nat.pow_le_pow_right (by decide) (by omega)
          have h5 : (128 : Nat) ^ 5 = 34359738368 := by decide
          omega
        have p1 : (2 : Int) ^ (7 * i) = P := by have := congrArg (fun z : Nat => (z : Int)) ((pow128 i).symm.trans hP); simpa using this
        have p2 : ((b.toNat : Int) % 128) * P = t := by rw [← ht]; simp
        have p3 : (v : Int) + t = s := by omega
        have hb256 := u8_lt b
        have HS := hid hs
        have HST := hid hst
        clear hs hP ht hst
        have hde := (show ((0 : Int) != 0) = false by decide)
        unfold cb
        by_cases hb : b.toNat < 128
        · have hbi : ((b.toNat : Int)) < 128 := by omega
          have HMY : Hid (∀ W, New w2 W → Calls Try.prog 62 #[.agg (valW x pv), .int .u64 s, .int .i64 (rest lim q')] W (Yes (x.may (rest lim q') s) W)) := fun W hW => (HW2.out.new hW).may s _ HIQ2.out.rest.2
          have HRS : Hid (∀ W, New w2 W → Calls Try.prog 38 #[.pointer (some ⟨R, 0, none⟩)] W fun e w' => e = .returned (.int .i64 (rest lim q')) ∧ New W w') := fun W hW => rRest_any (HR2.out.new hW) HIQ2.out
          have HSH : Hid (mayU x.may ds b (rest lim q') ↔ x.may (rest lim q') s) := by
            have := shut_iff x (rest lim q') ds b hb
            rw [HS.out] at this
            exact this
          generalize rest lim q' = r at *
          go_upto_region 10 with fail
          rw [p3]
          clear p1 p2 p3 hde c3
          have e41 : IntKind.i64.wrap ((q' : Int) - 1) = (q : Int) := by have h1 := HIQ2.out.place; have h2 := HIQ2.out.len; have h3 := HQ1.out; rw [IntWalk.i64_in _ (by omega)]; omega
          have hne : w.heap.size ≠ R := by omega
          have hnn : New w2 w2.drew := (Upd.refl _ _).drew
          have hn : SR w2 R w.heap.size q' (valW x pv) w2.drew := ⟨(Upd.refl _ _).drew, HR2.out.c1, HBX2.out⟩
          refine wp_region_noPanic ?_
          refine wp_region_held_drew (S := (SR w2 R w.heap.size q' (valW x pv))) (by kernel_rfl) (by first | exact hn | exact (Upd.refl _ _).drew | exact Upd.drew (by assumption)) (fun hn => ?_)
          generalize w2.drew = wd at *
          refine wpAnyH_take (i := 0) (oi := { dst := some 31, op := Op.move (Operand.tmp 0), type := 33, pos := "ref.go:171", after := #[], guard := none }) (v := ?v9x1) rfl (by kernel_rfl) (by kernel_rfl) (by kernel_rfl) (fun _ _ _ h => h) (Or.inl ⟨by rfl, ?y9x1⟩) hn ?r9x1
          case y9x1 => (intro wS hS; (try go_simp); (try with_reducible rfl))
          try simp only [Act.put, List.setIfInBounds_toArray, List.set_cons_zero, List.set_cons_succ]
          refine wpAnyH_take (i := 1) (oi := { dst := some 32, op := Op.load 47 (Operand.tmp 3), type := 47, pos := "ref.go:171", after := #[], guard := none }) (v := ?v9x2) rfl (by kernel_rfl) (by kernel_rfl) (by kernel_rfl) (fun _ _ _ h => h) (Or.inl ⟨by rfl, ?y9x2⟩) hn ?r9x2
          case y9x2 => (intro wS hS; rw [load_box (cs := valW x pv) (t := 47) (g := w.heap.size) rfl rfl hS.bx Try.underlying47 rfl infoW]; (try go_simp); (try with_reducible rfl))
          try simp only [Act.put, List.setIfInBounds_toArray, List.set_cons_zero, List.set_cons_succ]
          refine wpAnyH_take (i := 2) (oi := { dst := some 33, op := Op.move (Operand.tmp 5), type := 42, pos := "ref.go:171", after := #[], guard := none }) (v := ?v9x3) rfl (by kernel_rfl) (by kernel_rfl) (by kernel_rfl) (fun _ _ _ h => h) (Or.inl ⟨by rfl, ?y9x3⟩) hn ?r9x3
          case y9x3 => (intro wS hS; (try go_simp); (try with_reducible rfl))
          try simp only [Act.put, List.setIfInBounds_toArray, List.set_cons_zero, List.set_cons_succ]
          refine wpAnyH_take (i := 3) (oi := { dst := some 34, op := Op.move (Operand.tmp 0), type := 33, pos := "ref.go:171", after := #[], guard := none }) (v := ?v9x4) rfl (by kernel_rfl) (by kernel_rfl) (by kernel_rfl) (fun _ _ _ h => h) (Or.inl ⟨by rfl, ?y9x4⟩) hn ?r9x4
          case y9x4 => (intro wS hS; (try go_simp); (try with_reducible rfl))
          try simp only [Act.put, List.setIfInBounds_toArray, List.set_cons_zero, List.set_cons_succ]
          refine wpAnyH_take (i := 6) (oi := { dst := some 37, op := Op.move (Operand.tmp 0), type := 33, pos := "ref.go:171", after := #[], guard := none }) (v := ?v9x5) rfl (by kernel_rfl) (by kernel_rfl) (by kernel_rfl) (fun _ _ _ h => h) (Or.inl ⟨by rfl, ?y9x5⟩) hn ?r9x5
          case y9x5 => (intro wS hS; (try go_simp); (try with_reducible rfl))
          try simp only [Act.put, List.setIfInBounds_toArray, List.set_cons_zero, List.set_cons_succ]
          refine wpAnyH_take (i := 7) (oi := { dst := some 38, op := Op.nilCheck (Operand.tmp 37), type := 0, pos := "ref.go:171", after := #[{ on := 6, ground := Ground.data }], guard := none }) (v := ?v9x6) rfl (by kernel_rfl) (by kernel_rfl) (by kernel_rfl) (fun _ _ _ h => h) (Or.inl ⟨by rfl, ?y9x6⟩) hn ?r9x6
          case y9x6 => (intro wS hS; (try go_simp); (try with_reducible rfl))
          try simp only [Act.put, List.setIfInBounds_toArray, List.set_cons_zero, List.set_cons_succ]
          refine wpAnyH_take (i := 8) (oi := { dst := some 39, op := Op.fieldAddr 37 (Operand.tmp 38) 1, type := 0, pos := "ref.go:171", after := #[{ on := 7, ground := Ground.data }], guard := none }) (v := ?v9x7) rfl (by kernel_rfl) (by kernel_rfl) (by kernel_rfl) (fun _ _ _ h => h) (Or.inl ⟨by rfl, ?y9x7⟩) hn ?r9x7
          case y9x7 => (intro wS hS; (try go_simp); (try with_reducible rfl))
          try simp only [Act.put, List.setIfInBounds_toArray, List.set_cons_zero, List.set_cons_succ]
          refine wpAnyH_take (i := 9) (oi := { dst := some 40, op := Op.load 3 (Operand.tmp 39), type := 3, pos := "ref.go:171", after := #[{ on := 8, ground := Ground.data }], guard := none }) (v := ?v9x8) rfl (by kernel_rfl) (by kernel_rfl) (by kernel_rfl) (fun _ _ _ h => h) (Or.inl ⟨by rfl, ?y9x8⟩) hn ?r9x8
          case y9x8 => (intro wS hS; have c := hS.c1; (try go_simp); (try with_reducible rfl))
          try simp only [Act.put, List.setIfInBounds_toArray, List.set_cons_zero, List.set_cons_succ]
          refine wpAnyH_take (i := 10) (oi := { dst := some 41, op := Op.binOp BinOp.sub 3 (Operand.tmp 40) (Operand.const (Value.int IntKind.i64 1)) 3, type := 3, pos := "ref.go:171", after := #[{ on := 9, ground := Ground.data }], guard := none }) (v := ?v9x9) rfl (by kernel_rfl) (by kernel_rfl) (by kernel_rfl) (fun _ _ _ h => h) (Or.inl ⟨by rfl, ?y9x9⟩) hn ?r9x9
          case y9x9 => (intro wS hS; (try go_simp); (try with_reducible rfl))
          try simp only [Act.put, List.setIfInBounds_toArray, List.set_cons_zero, List.set_cons_succ]
          refine wpAnyH_ready (rs := [4]) (by kernel_rfl) (by simp) ?_
          refine AllReadyH.cons (o := { dst := some 35, op := Op.call { callee := Callee.value (Operand.func 38), args := #[Operand.tmp 34], argTypes := #[33] }, type := 3, pos := "ref.go:171", after := #[{ on := 3, ground := Ground.data }], guard := none }) rfl (fun K hK => ?_) AllReadyH.nil
          go_simp
          refine (HRS.out _ hnn).mono ?_
          rintro e wa ⟨rfl, hna⟩
          go_wp2_with fail
          have hn := hn.new hna
          have hnn := New.trans hnn hna
          refine hK.out _ _ (by first | exact hn | exact Upd.alloc hn _) (fun hn => ?_)
          clear hK K
          try simp only [Act.put, List.setIfInBounds_toArray, List.set_cons_zero, List.set_cons_succ]
          refine wpAnyH_ready (rs := [5]) (by kernel_rfl) (by simp) ?_
          refine AllReadyH.cons (o := { dst := some 36, op := Op.call { callee := Callee.value (Operand.func 62), args := #[Operand.tmp 32, Operand.tmp 33, Operand.tmp 35], argTypes := #[47, 42, 3] }, type := 4, pos := "ref.go:171", after := #[{ on := 1, ground := Ground.data }, { on := 2, ground := Ground.data }, { on := 4, ground := Ground.data }, { on := 4, ground := Ground.chain }], guard := none }) rfl (fun K hK => ?_) AllReadyH.nil
          go_simp
          refine (HMY.out _ hnn).mono ?_
          rintro e wb ⟨c, rfl, hc, hnb⟩
          have HC := hid hc
          clear hc
          go_wp2_with fail
          have hn := hn.new hnb
          have hnn := New.trans hnn hnb
          refine hK.out _ _ (by first | exact hn | exact Upd.alloc hn _) (fun hn => ?_)
          clear hK K
          try simp only [Act.put, List.setIfInBounds_toArray, List.set_cons_zero, List.set_cons_succ]
          refine wpAnyH_ready (rs := [11]) (by kernel_rfl) (by simp) ?_
          refine AllReadyH.cons (o := { dst := some 42, op := Op.call { callee := Callee.value (Operand.func 31), args := #[Operand.tmp 31, Operand.tmp 36, Operand.tmp 41], argTypes := #[33, 4, 3] }, type := 0, pos := "ref.go:171", after := #[{ on := 0, ground := Ground.data }, { on := 5, ground := Ground.data }, { on := 10, ground := Ground.data }, { on := 5, ground := Ground.chain }], guard := none }) rfl (fun K hK => ?_) AllReadyH.nil
          go_simp
          refine (rNeed_any' (HR2.out.new hnn) c q).mono ?_
          rintro e wc ⟨rfl, h5, u5⟩
          have H5 := hid h5
          go_wp2_with fail
          have hn := hn.upd u5 hne h5.c1
          clear h5
          refine hK.out _ _ (by first | exact hn | exact Upd.alloc hn _) (fun hn => ?_)
          clear hK K
          try simp only [Act.put, List.setIfInBounds_toArray, List.set_cons_zero, List.set_cons_succ]
          refine wpAnyH_done (by kernel_rfl) ?_ _
          refine NoPanic.normal ?_
          have hF : Hid (if c = true then O = .ok (ds ++ [b]) q' else O = .up q 2) := by
            show if c = true then _ else _
            cases c with
            | true =>
              have := NUB.out.1 (HSH.out.2 (HC.out.1 rfl))
              rw [HNUM.out, if_pos hb] at this
              exact this
            | false =>
              have := NUB.out.2 (fun h => by have := HC.out.2 (HSH.out.1 h); simp at this)
              rw [HNUM.out] at this
              exact this
          have U5 := hid (U2.out.trans hn.up (fun _ _ h => h))
          have hV : Hid (Value.int .u32 (s : Nat) = Value.int .u32 (s : Nat)) := hid rfl
          have hsm : s % 4294967296 = s ∨ c = false := by
            cases c with
            | true =>
              have := (HC.out.1 rfl).2.1
              exact .inl (Nat.mod_eq_of_lt this)
            | false => exact .inr rfl
          have HSM := hid hsm
          clear hn hnn hna hnb e41 hsm u5
          go_wp2_with fail
          go_ret
          have h5 := H5.out
          have hf := hF.out
          cases c with
          | true => exact RGot.mk_ok hf U5.out (by unfold UintV; rw [HS.out]; first | rfl | (congr 2; omega) | simp) h5
          | false => exact RGot.mk_up (ds ++ [b]) hf U5.out (by unfold UintV; rw [HS.out]; first | rfl | (congr 2; omega) | simp) h5
        · have hbi : ¬ ((b.toNat : Int)) < 128 := by omega
          have HOP : Hid (mayU x.may ds b (rest lim q') ↔ Opens x lim q' s (i + 1) (5 - i)) := by
            have := open_iff x hrl.out ds b hb
            rw [HS.out, HII.out] at this
            exact this
          have HCO : Hid (∀ j : Nat, 1 ≤ j → i + j < 5 → ∀ W, New w2 W → Calls Try.prog 63 #[.agg (valW x pv), .int .u64 s, .int .i64 (7 * (i + 1) : Nat), .int .i64 j, .int .i64 (behD lim q' j)] W (Yes (fits x.may s (i + 1) j (behD lim q' j)) W)) :=
            fun j h1 h2 W hW => Comes_any x pv s (i + 1) j _ W (HW2.out.new hW) (by have := HIQ2.out.rest; unfold behD; split <;> omega) (by omega) (by omega) hsl.out
          have HBE : Hid (∀ j : Nat, j ≤ 5 → ∀ W, New w2 W → Calls Try.prog 64 #[.pointer (some ⟨R, 0, none⟩), .int .i64 j] W fun e w' => e = .returned (.int .i64 (behD lim q' j)) ∧ New W w') :=
            fun j h1 W hW => rBehind_any (HR2.out.new hW) HIQ2.out j (by omega) (by omega)
          go_wp2_with fail
          rw [p3]
          clear p1 p2 p3 hde c3
          obtain ⟨wo, rfl⟩ : ∃ wo, wo = w2 := ⟨_, rfl⟩
          go_loopw [8, 9] (fun o a wi => ∃ (j : Nat) (ob : Bool), o = .bool ob ∧ a = .int .i64 j ∧ 1 ≤ j ∧ i + j ≤ 5 ∧ New wo wi ∧ (ob = true ↔ Opens x lim q' s (i + 1) j)) (fun _ a _ => 5 - i - (intOf a).toNat)
          case atStart => exact ⟨1, false, rfl, rfl, Nat.le_refl _, by omega, Upd.refl _ _, by simp only [Bool.false_eq_true, false_iff]; rintro ⟨z, h1, h2, _⟩; omega⟩
          case round =>
            obtain ⟨j, ob, rfl, rfl, hj1, hj5, hwi, hob⟩ := hrel
            obtain ⟨wi, rfl⟩ : ∃ wi : World, wi = wr := ⟨_, rfl⟩
            have HWI := hid hwi
            have HOB := hid hob
            clear hob
            by_cases hj : i + j < 5
            · cases ob with
              | true =>
                go_upto_region 16 with fail
                have hn : New wi wi.drew := (Upd.refl _ _).drew
                refine wp_region_noPanic ?_
                refine wp_region_held_drew (S := (New wi)) (by kernel_rfl) (by first | exact hn | exact (Upd.refl _ _).drew | exact Upd.drew (by assumption)) (fun hn => ?_)
                refine wpAnyH_take (i := 0) (oi := { dst := some 51, op := Op.move (Operand.tmp 8), type := 4, pos := "ref.go:176", after := #[], guard := none }) (v := ?v10x1) rfl (by kernel_rfl) (by kernel_rfl) (by kernel_rfl) (fun _ _ _ h => h) (Or.inl ⟨by rfl, ?y10x1⟩) hn ?r10x1
                case y10x1 => (intro wS hS; (try go_simp); (try with_reducible rfl))
                try simp only [Act.put, List.setIfInBounds_toArray, List.set_cons_zero, List.set_cons_succ]
                refine wpAnyH_take (i := 1) (oi := { dst := some 52, op := Op.move (Operand.tmp 51), type := 4, pos := "ref.go:176", after := #[{ on := 0, ground := Ground.data }], guard := none }) (v := ?v10x2) rfl (by kernel_rfl) (by kernel_rfl) (by kernel_rfl) (fun _ _ _ h => h) (Or.inl ⟨by rfl, ?y10x2⟩) hn ?r10x2
                case y10x2 => (intro wS hS; (try go_simp); (try with_reducible rfl))
                try simp only [Act.put, List.setIfInBounds_toArray, List.set_cons_zero, List.set_cons_succ]
                refine wpAnyH_take (i := 2) (oi := { dst := some 53, op := Op.load 47 (Operand.tmp 3), type := 47, pos := "ref.go:176", after := #[{ on := 1, ground := Ground.guard }], guard := some (1, false) }) (v := undef) rfl (by kernel_rfl) (by kernel_rfl) (by kernel_rfl) (fun _ _ _ h => h) (Or.inr ⟨by rfl, rfl⟩) hn ?_
                try simp only [Act.put, List.setIfInBounds_toArray, List.set_cons_zero, List.set_cons_succ]
                refine wpAnyH_take (i := 3) (oi := { dst := some 54, op := Op.move (Operand.tmp 5), type := 42, pos := "ref.go:176", after := #[{ on := 1, ground := Ground.guard }], guard := some (1, false) }) (v := undef) rfl (by kernel_rfl) (by kernel_rfl) (by kernel_rfl) (fun _ _ _ h => h) (Or.inr ⟨by rfl, rfl⟩) hn ?_
                try simp only [Act.put, List.setIfInBounds_toArray, List.set_cons_zero, List.set_cons_succ]
                refine wpAnyH_take (i := 4) (oi := { dst := some 55, op := Op.move (Operand.tmp 6), type := 3, pos := "ref.go:176", after := #[{ on := 1, ground := Ground.guard }], guard := some (1, false) }) (v := undef) rfl (by kernel_rfl) (by kernel_rfl) (by kernel_rfl) (fun _ _ _ h => h) (Or.inr ⟨by rfl, rfl⟩) hn ?_
                try simp only [Act.put, List.setIfInBounds_toArray, List.set_cons_zero, List.set_cons_succ]
                refine wpAnyH_take (i := 5) (oi := { dst := some 56, op := Op.binOp BinOp.mul 3 (Operand.const (Value.int IntKind.i64 7)) (Operand.tmp 55) 3, type := 3, pos := "ref.go:176", after := #[{ on := 4, ground := Ground.data }, { on := 1, ground := Ground.guard }], guard := some (1, false) }) (v := undef) rfl (by kernel_rfl) (by kernel_rfl) (by kernel_rfl) (fun _ _ _ h => h) (Or.inr ⟨by rfl, rfl⟩) hn ?_
                try simp only [Act.put, List.setIfInBounds_toArray, List.set_cons_zero, List.set_cons_succ]
                refine wpAnyH_take (i := 6) (oi := { dst := some 57, op := Op.binOp BinOp.add 3 (Operand.tmp 56) (Operand.const (Value.int IntKind.i64 7)) 3, type := 3, pos := "ref.go:176", after := #[{ on := 5, ground := Ground.data }, { on := 1, ground := Ground.guard }], guard := some (1, false) }) (v := undef) rfl (by kernel_rfl) (by kernel_rfl) (by kernel_rfl) (fun _ _ _ h => h) (Or.inr ⟨by rfl, rfl⟩) hn ?_
                try simp only [Act.put, List.setIfInBounds_toArray, List.set_cons_zero, List.set_cons_succ]
                refine wpAnyH_take (i := 7) (oi := { dst := some 58, op := Op.move (Operand.tmp 9), type := 3, pos := "ref.go:176", after := #[{ on := 1, ground := Ground.guard }], guard := some (1, false) }) (v := undef) rfl (by kernel_rfl) (by kernel_rfl) (by kernel_rfl) (fun _ _ _ h => h) (Or.inr ⟨by rfl, rfl⟩) hn ?_
                try simp only [Act.put, List.setIfInBounds_toArray, List.set_cons_zero, List.set_cons_succ]
                refine wpAnyH_take (i := 8) (oi := { dst := some 59, op := Op.move (Operand.tmp 0), type := 33, pos := "ref.go:176", after := #[{ on := 1, ground := Ground.guard }], guard := some (1, false) }) (v := undef) rfl (by kernel_rfl) (by kernel_rfl) (by kernel_rfl) (fun _ _ _ h => h) (Or.inr ⟨by rfl, rfl⟩) hn ?_
                try simp only [Act.put, List.setIfInBounds_toArray, List.set_cons_zero, List.set_cons_succ]
                refine wpAnyH_take (i := 9) (oi := { dst := some 60, op := Op.move (Operand.tmp 9), type := 3, pos := "ref.go:176", after := #[{ on := 1, ground := Ground.guard }], guard := some (1, false) }) (v := undef) rfl (by kernel_rfl) (by kernel_rfl) (by kernel_rfl) (fun _ _ _ h => h) (Or.inr ⟨by rfl, rfl⟩) hn ?_
                try simp only [Act.put, List.setIfInBounds_toArray, List.set_cons_zero, List.set_cons_succ]
                refine wpAnyH_take (i := 10) (oi := { dst := some 61, op := Op.call { callee := Callee.value (Operand.func 64), args := #[Operand.tmp 59, Operand.tmp 60], argTypes := #[33, 3] }, type := 3, pos := "ref.go:176", after := #[{ on := 8, ground := Ground.data }, { on := 9, ground := Ground.data }, { on := 1, ground := Ground.chain }, { on := 1, ground := Ground.guard }], guard := some (1, false) }) (v := undef) rfl (by kernel_rfl) (by kernel_rfl) (by kernel_rfl) (fun _ _ _ h => h) (Or.inr ⟨by rfl, rfl⟩) hn ?_
                try simp only [Act.put, List.setIfInBounds_toArray, List.set_cons_zero, List.set_cons_succ]
                refine wpAnyH_take (i := 11) (oi := { dst := some 62, op := Op.call { callee := Callee.value (Operand.func 63), args := #[Operand.tmp 53, Operand.tmp 54, Operand.tmp 57, Operand.tmp 58, Operand.tmp 61], argTypes := #[47, 42, 3, 3, 3] }, type := 4, pos := "ref.go:176", after := #[{ on := 2, ground := Ground.data }, { on := 3, ground := Ground.data }, { on := 6, ground := Ground.data }, { on := 7, ground := Ground.data }, { on := 10, ground := Ground.data }, { on := 10, ground := Ground.chain }, { on := 1, ground := Ground.guard }], guard := some (1, false) }) (v := undef) rfl (by kernel_rfl) (by kernel_rfl) (by kernel_rfl) (fun _ _ _ h => h) (Or.inr ⟨by rfl, rfl⟩) hn ?_
                try simp only [Act.put, List.setIfInBounds_toArray, List.set_cons_zero, List.set_cons_succ]
                refine wpAnyH_take (i := 12) (oi := { dst := some 63, op := Op.pick (Operand.tmp 52) (Operand.const (Value.bool true)) (Operand.tmp 62), type := 4, pos := "ref.go:176", after := #[{ on := 1, ground := Ground.data }, { on := 11, ground := Ground.data }], guard := none }) (v := ?v10x13) rfl (by kernel_rfl) (by kernel_rfl) (by kernel_rfl) (fun _ _ _ h => h) (Or.inl ⟨by rfl, ?y10x13⟩) hn ?r10x13
                case y10x13 => (intro wS hS; (try go_simp); (try with_reducible rfl))
                try simp only [Act.put, List.setIfInBounds_toArray, List.set_cons_zero, List.set_cons_succ]
                refine wpAnyH_take (i := 13) (oi := { dst := some 8, op := Op.assign (Operand.tmp 63), type := 4, pos := "ref.go:176", after := #[{ on := 12, ground := Ground.data }, { on := 11, ground := Ground.chain }, { on := 0, ground := Ground.phase }, { on := 1, ground := Ground.phase }, { on := 2, ground := Ground.phase }, { on := 3, ground := Ground.phase }, { on := 4, ground := Ground.phase }, { on := 5, ground := Ground.phase }, { on := 6, ground := Ground.phase }, { on := 7, ground := Ground.phase }, { on := 8, ground := Ground.phase }, { on := 9, ground := Ground.phase }, { on := 10, ground := Ground.phase }, { on := 11, ground := Ground.phase }, { on := 12, ground := Ground.phase }], guard := none }) (v := ?v10x14) rfl (by kernel_rfl) (by kernel_rfl) (by kernel_rfl) (fun _ _ _ h => h) (Or.inl ⟨by rfl, ?y10x14⟩) hn ?r10x14
                case y10x14 => (intro wS hS; (try go_simp); (try with_reducible rfl))
                try simp only [Act.put, List.setIfInBounds_toArray, List.set_cons_zero, List.set_cons_succ]
                refine wpAnyH_done (by kernel_rfl) ?_ _
                refine NoPanic.normal ?_
                go_wp2_with fail
                go_roundw
                case rel =>
                  refine ⟨j + 1, true, rfl, by go_num, by omega, by omega, New.trans HWI.out hn, ?_⟩
                  obtain ⟨z, h1, h2, h3⟩ := HOB.out.1 (by first | rfl | trivial)
                  simp only [true_iff]
                  exact ⟨z, h1, by omega, h3⟩
                case measure => simp [intOf]; omega
              | false =>
                go_upto_region 16 with fail
                have hnn : New wo wi.drew := New.trans hwi ((Upd.refl _ _).drew)
                have hn : New wi wi.drew := (Upd.refl _ _).drew
                have hbxi : Hid (∀ W, New wi W → W.heap[w.heap.size]? = some (.cells (valW x pv) 47)) := fun W hW => ((New.trans HWI.out hW).block _ (Array.getElem?_eq_some_iff.1 HBX2.out).1 (fun h => h)).trans HBX2.out
                have e56 : IntKind.i64.wrap (7 * (i : Int)) = 7 * (i : Int) := IntWalk.i64_in _ (by omega)
                have e57 : IntKind.i64.wrap (7 * (i : Int) + 7) = ((7 * (i + 1) : Nat) : Int) := by rw [IntWalk.i64_in _ (by omega)]; omega
                clear hwi
                refine wp_region_noPanic ?_
                refine wp_region_held_drew (S := (New wi)) (by kernel_rfl) (by first | exact hn | exact (Upd.refl _ _).drew | exact Upd.drew (by assumption)) (fun hn => ?_)
                generalize wi.drew = wd at *
                refine wpAnyH_take (i := 0) (oi := { dst := some 51, op := Op.move (Operand.tmp 8), type := 4, pos := "ref.go:176", after := #[], guard := none }) (v := ?v11x1) rfl (by kernel_rfl) (by kernel_rfl) (by kernel_rfl) (fun _ _ _ h => h) (Or.inl ⟨by rfl, ?y11x1⟩) hn ?r11x1
                case y11x1 => (intro wS hS; (try go_simp); (try with_reducible rfl))
                try simp only [Act.put, List.setIfInBounds_toArray, List.set_cons_zero, List.set_cons_succ]
                refine wpAnyH_take (i := 1) (oi := { dst := some 52, op := Op.move (Operand.tmp 51), type := 4, pos := "ref.go:176", after := #[{ on := 0, ground := Ground.data }], guard := none }) (v := ?v11x2) rfl (by kernel_rfl) (by kernel_rfl) (by kernel_rfl) (fun _ _ _ h => h) (Or.inl ⟨by rfl, ?y11x2⟩) hn ?r11x2
                case y11x2 => (intro wS hS; (try go_simp); (try with_reducible rfl))
                try simp only [Act.put, List.setIfInBounds_toArray, List.set_cons_zero, List.set_cons_succ]
                refine wpAnyH_take (i := 2) (oi := { dst := some 53, op := Op.load 47 (Operand.tmp 3), type := 47, pos := "ref.go:176", after := #[{ on := 1, ground := Ground.guard }], guard := some (1, false) }) (v := ?v11x3) rfl (by kernel_rfl) (by kernel_rfl) (by kernel_rfl) (fun _ _ _ h => h) (Or.inl ⟨by rfl, ?y11x3⟩) hn ?r11x3
                case y11x3 => (intro wS hS; rw [load_box (cs := valW x pv) (t := 47) (g := w.heap.size) rfl rfl (hbxi.out _ hS) Try.underlying47 rfl infoW]; (try go_simp); (try with_reducible rfl))
                try simp only [Act.put, List.setIfInBounds_toArray, List.set_cons_zero, List.set_cons_succ]
                refine wpAnyH_take (i := 3) (oi := { dst := some 54, op := Op.move (Operand.tmp 5), type := 42, pos := "ref.go:176", after := #[{ on := 1, ground := Ground.guard }], guard := some (1, false) }) (v := ?v11x4) rfl (by kernel_rfl) (by kernel_rfl) (by kernel_rfl) (fun _ _ _ h => h) (Or.inl ⟨by rfl, ?y11x4⟩) hn ?r11x4
                case y11x4 => (intro wS hS; (try go_simp); (try with_reducible rfl))
                try simp only [Act.put, List.setIfInBounds_toArray, List.set_cons_zero, List.set_cons_succ]
                refine wpAnyH_take (i := 4) (oi := { dst := some 55, op := Op.move (Operand.tmp 6), type := 3, pos := "ref.go:176", after := #[{ on := 1, ground := Ground.guard }], guard := some (1, false) }) (v := ?v11x5) rfl (by kernel_rfl) (by kernel_rfl) (by kernel_rfl) (fun _ _ _ h => h) (Or.inl ⟨by rfl, ?y11x5⟩) hn ?r11x5
                case y11x5 => (intro wS hS; (try go_simp); (try with_reducible rfl))
                try simp only [Act.put, List.setIfInBounds_toArray, List.set_cons_zero, List.set_cons_succ]
                refine wpAnyH_take (i := 5) (oi := { dst := some 56, op := Op.binOp BinOp.mul 3 (Operand.const (Value.int IntKind.i64 7)) (Operand.tmp 55) 3, type := 3, pos := "ref.go:176", after := #[{ on := 4, ground := Ground.data }, { on := 1, ground := Ground.guard }], guard := some (1, false) }) (v := ?v11x6) rfl (by kernel_rfl) (by kernel_rfl) (by kernel_rfl) (fun _ _ _ h => h) (Or.inl ⟨by rfl, ?y11x6⟩) hn ?r11x6
                case y11x6 => (intro wS hS; (try go_simp); (try with_reducible rfl))
                try simp only [Act.put, List.setIfInBounds_toArray, List.set_cons_zero, List.set_cons_succ]
                refine wpAnyH_take (i := 6) (oi := { dst := some 57, op := Op.binOp BinOp.add 3 (Operand.tmp 56) (Operand.const (Value.int IntKind.i64 7)) 3, type := 3, pos := "ref.go:176", after := #[{ on := 5, ground := Ground.data }, { on := 1, ground := Ground.guard }], guard := some (1, false) }) (v := ?v11x7) rfl (by kernel_rfl) (by kernel_rfl) (by kernel_rfl) (fun _ _ _ h => h) (Or.inl ⟨by rfl, ?y11x7⟩) hn ?r11x7
                case y11x7 => (intro wS hS; (try go_simp); (try with_reducible rfl))
                try simp only [Act.put, List.setIfInBounds_toArray, List.set_cons_zero, List.set_cons_succ]
                refine wpAnyH_take (i := 7) (oi := { dst := some 58, op := Op.move (Operand.tmp 9), type := 3, pos := "ref.go:176", after := #[{ on := 1, ground := Ground.guard }], guard := some (1, false) }) (v := ?v11x8) rfl (by kernel_rfl) (by kernel_rfl) (by kernel_rfl) (fun _ _ _ h => h) (Or.inl ⟨by rfl, ?y11x8⟩) hn ?r11x8
                case y11x8 => (intro wS hS; (try go_simp); (try with_reducible rfl))
                try simp only [Act.put, List.setIfInBounds_toArray, List.set_cons_zero, List.set_cons_succ]
                refine wpAnyH_take (i := 8) (oi := { dst := some 59, op := Op.move (Operand.tmp 0), type := 33, pos := "ref.go:176", after := #[{ on := 1, ground := Ground.guard }], guard := some (1, false) }) (v := ?v11x9) rfl (by kernel_rfl) (by kernel_rfl) (by kernel_rfl) (fun _ _ _ h => h) (Or.inl ⟨by rfl, ?y11x9⟩) hn ?r11x9
                case y11x9 => (intro wS hS; (try go_simp); (try with_reducible rfl))
                try simp only [Act.put, List.setIfInBounds_toArray, List.set_cons_zero, List.set_cons_succ]
                refine wpAnyH_take (i := 9) (oi := { dst := some 60, op := Op.move (Operand.tmp 9), type := 3, pos := "ref.go:176", after := #[{ on := 1, ground := Ground.guard }], guard := some (1, false) }) (v := ?v11x10) rfl (by kernel_rfl) (by kernel_rfl) (by kernel_rfl) (fun _ _ _ h => h) (Or.inl ⟨by rfl, ?y11x10⟩) hn ?r11x10
                case y11x10 => (intro wS hS; (try go_simp); (try with_reducible rfl))
                try simp only [Act.put, List.setIfInBounds_toArray, List.set_cons_zero, List.set_cons_succ]
                refine wpAnyH_ready (rs := [10]) (by kernel_rfl) (by simp) ?_
                refine AllReadyH.cons (o := { dst := some 61, op := Op.call { callee := Callee.value (Operand.func 64), args := #[Operand.tmp 59, Operand.tmp 60], argTypes := #[33, 3] }, type := 3, pos := "ref.go:176", after := #[{ on := 8, ground := Ground.data }, { on := 9, ground := Ground.data }, { on := 1, ground := Ground.chain }, { on := 1, ground := Ground.guard }], guard := some (1, false) }) rfl (fun K hK => ?_) AllReadyH.nil
                go_simp
                refine (HBE.out j (by omega) _ hnn).mono ?_
                rintro e wa ⟨rfl, hna⟩
                go_wp2_with fail
                have hn := New.trans hn hna
                have hnn := New.trans hnn hna
                refine hK.out _ _ (by first | exact hn | exact Upd.alloc hn _) (fun hn => ?_)
                clear hK K
                try simp only [Act.put, List.setIfInBounds_toArray, List.set_cons_zero, List.set_cons_succ]
                refine wpAnyH_ready (rs := [11]) (by kernel_rfl) (by simp) ?_
                refine AllReadyH.cons (o := { dst := some 62, op := Op.call { callee := Callee.value (Operand.func 63), args := #[Operand.tmp 53, Operand.tmp 54, Operand.tmp 57, Operand.tmp 58, Operand.tmp 61], argTypes := #[47, 42, 3, 3, 3] }, type := 4, pos := "ref.go:176", after := #[{ on := 2, ground := Ground.data }, { on := 3, ground := Ground.data }, { on := 6, ground := Ground.data }, { on := 7, ground := Ground.data }, { on := 10, ground := Ground.data }, { on := 10, ground := Ground.chain }, { on := 1, ground := Ground.guard }], guard := some (1, false) }) rfl (fun K hK => ?_) AllReadyH.nil
                go_simp
                refine (HCO.out j hj1 hj _ hnn).mono ?_
                rintro e wb ⟨c, rfl, hc, hnb⟩
                have HC := hid hc
                clear hc
                go_wp2_with fail
                have hn := New.trans hn hnb
                have hnn := New.trans hnn hnb
                refine hK.out _ _ (by first | exact hn | exact Upd.alloc hn _) (fun hn => ?_)
                clear hK K
                try simp only [Act.put, List.setIfInBounds_toArray, List.set_cons_zero, List.set_cons_succ]
                refine wpAnyH_take (i := 12) (oi := { dst := some 63, op := Op.pick (Operand.tmp 52) (Operand.const (Value.bool true)) (Operand.tmp 62), type := 4, pos := "ref.go:176", after := #[{ on := 1, ground := Ground.data }, { on := 11, ground := Ground.data }], guard := none }) (v := ?v11x11) rfl (by kernel_rfl) (by kernel_rfl) (by kernel_rfl) (fun _ _ _ h => h) (Or.inl ⟨by rfl, ?y11x11⟩) hn ?r11x11
                case y11x11 => (intro wS hS; (try go_simp); (try with_reducible rfl))
                try simp only [Act.put, List.setIfInBounds_toArray, List.set_cons_zero, List.set_cons_succ]
                refine wpAnyH_take (i := 13) (oi := { dst := some 8, op := Op.assign (Operand.tmp 63), type := 4, pos := "ref.go:176", after := #[{ on := 12, ground := Ground.data }, { on := 11, ground := Ground.chain }, { on := 0, ground := Ground.phase }, { on := 1, ground := Ground.phase }, { on := 2, ground := Ground.phase }, { on := 3, ground := Ground.phase }, { on := 4, ground := Ground.phase }, { on := 5, ground := Ground.phase }, { on := 6, ground := Ground.phase }, { on := 7, ground := Ground.phase }, { on := 8, ground := Ground.phase }, { on := 9, ground := Ground.phase }, { on := 10, ground := Ground.phase }, { on := 11, ground := Ground.phase }, { on := 12, ground := Ground.phase }], guard := none }) (v := ?v11x12) rfl (by kernel_rfl) (by kernel_rfl) (by kernel_rfl) (fun _ _ _ h => h) (Or.inl ⟨by rfl, ?y11x12⟩) hn ?r11x12
                case y11x12 => (intro wS hS; (try go_simp); (try with_reducible rfl))
                try simp only [Act.put, List.setIfInBounds_toArray, List.set_cons_zero, List.set_cons_succ]
                refine wpAnyH_done (by kernel_rfl) ?_ _
                refine NoPanic.normal ?_
                go_wp2_with fail
                go_roundw
                case rel =>
                  refine ⟨j + 1, c, rfl, by go_num, by omega, by omega, hnn, ?_⟩
                  rw [HC.out]
                  constructor
                  · intro h; exact ⟨j, hj1, by omega, h⟩
                  · rintro ⟨z, h1, h2, h3⟩
                    rcases Nat.lt_or_ge z j with h4 | h4
                    · have := HOB.out.2 ⟨z, h1, h4, h3⟩
                      simp at this
                    · have : z = j := by omega
                      subst this
                      exact h3
                case measure => simp [intOf]; omega
            · obtain rfl : j = 5 - i := by omega
              have h3 := HR2.out.new HWI.out
              have c1 := h3.c1
              have e41 : (q' : Int) - 1 = (q : Int) := by have h3 := HQ1.out; omega
              have hql := HIQ2.out.place
              have hqb := HIQ2.out.len
              have HND := hid (rNeed_any' h3 ob q)
              have hji : ((i : Int) + ((5 - i : Nat) : Int)) = 5 := by omega
              clear h3 hwi
              go_wp2_with fail
              refine HND.out.mono ?_
              rintro e w5 ⟨rfl, h5, u5⟩
              have U5 := hid ((U2.out.thenNew HWI.out).trans u5 (fun _ _ h => h))
              have HBX5 : Hid (w5.heap[w.heap.size]? = some (.cells (valW x pv) 47)) := (u5.block _ (by have := (Array.getElem?_eq_some_iff.1 HBX2.out).1; have := HWI.out.size; omega) (by omega)).trans ((HWI.out.block _ (Array.getElem?_eq_some_iff.1 HBX2.out).1 (fun h => h)).trans HBX2.out)
              have H5 := hid h5
              clear h5 u5 c1 e41 hji
              go_wp2_with fail
              have hlen : (ds ++ [b]).length = i + 1 := by rw [List.length_append, HII.out]; rfl
              go_roundg (6 - (i + 1))
              case measure => rw [HII.out]; omega
              case rel =>
                refine ⟨ds ++ [b], by rw [hlen], by rw [HS.out], by rw [hlen]; go_num, U5.out, HBX5.out, ?_⟩
                have h5 := H5.out
                cases ob with
                | true =>
                  have hop := HOB.out.1 (by first | rfl | trivial)
                  have hm := NUB.out.1 (HOP.out.2 hop)
                  rw [HNUM.out, if_neg hb] at hm
                  obtain ⟨z, h1, h2, _⟩ := hop
                  refine .inl ⟨q', h5, HIQ2.out, by rw [hlen]; omega, ?_⟩
                  rw [hlen, show 5 - (i + 1) = n by have := HNN.out; omega]
                  exact hm.symm
                | false =>
                  have hm := NUB.out.2 (fun h => by have := HOB.out.2 (HOP.out.1 h); simp at this)
                  rw [HNUM.out] at hm
                  exact .inr ⟨q', 2, q, by decide, h5, hm, by rw [hlen]; omega⟩
    · have hne := he
      have HE := hid he
      have HR := hid hr
      have HO2 := hid ho
      have HG := hid (rNext_gone hr he)
      have c3 := hr.c3
      have hb : ((er : Int) != 0) = true := by rw [bne_iff_ne]; omega
      clear he hr ho
      by_cases h5 : ds.length < 5
      · go_wp2_with fail
        refine HG.out.mono ?_
        rintro e w2 ⟨rfl, rfl⟩
        unfold cb
        go_wp2_with fail
        go_ret
        exact RGot.mk_up [] HO2.out IR.out.up rfl HR.out
      · go_wp2_with fail
        go_ret
        exact RGot.mk_up [] HO2.out IR.out.up rfl HR.out
end Go.Proofs.Ytkfohickmdkplaa

namespace Go.Proofs.Ytkfohickmdkplaa
open Go.RowKit Go.Proofs.Own
set_option maxRecDepth 100000
set_option maxHeartbeats 2000000

/-- a slice of bytes as a string -/
theorem Rd.str {w : World} {v : Value} {bs : List UInt8} (h : Rd w v bs) : (convert 22 9 v).run Try.prog w = .ok (.string ⟨bs.toArray⟩) w := by
  obtain ⟨a, cap, rfl, h1, h2, h3⟩ := h
  cases a with
  | none =>
    have hc := h2 rfl
    subst hc
    have : bs = [] := List.eq_nil_of_length_eq_zero (by omega)
    subst this
    exact run_convert_bytes_nil (P := Try.prog) w 22 5 Try.underlying22 Try.underlying5 0 0 9 Try.underlying9
  | some ad =>
    exact run_convert_bytes_back (P := Try.prog) w 22 9 5 ad cap bs Try.underlying22 Try.underlying5 Try.underlying9 (fun j hj => by
      obtain ⟨b, o, e, hc⟩ := h3 (by intro e; subst e; simp at hj)
      cases e
      rw [Addr.add_lit]
      exact hc j hj)
end Go.Proofs.Ytkfohickmdkplaa

namespace Go.Proofs.Ytkfohickmdkplaa
open Go.RowKit Go.Proofs.Leb Go.Proofs.Own Go.Proofs.Cur
set_option maxRecDepth 100000
set_option maxHeartbeats 4000000

/-- a part of a slice of bytes -/
theorem slice_rd {w : World} {v : Value} {bs : List UInt8} (h : Rd w v bs) (l m : Nat) (hlm : l + m ≤ bs.length) :
    ∃ v', (∀ w, (Instr.sliceAt 22 v (some (.int .i64 l)) (some (.int .i64 (l + m : Nat))) none).run Try.prog w = .ok v' w) ∧ Rd w v' ((bs.drop l).take m) ∧ (∀ k, v'.ownBlock = some k → v.ownBlock = some k) := by
  obtain ⟨a, cap, rfl, h1, h2, h3⟩ := h
  have hs : ∀ w, (sizeOf (Try.prog.elem 22)).run Try.prog w = .ok 1 w := fun _ => rfl
  have hlen : ((bs.drop l).take m).length = m := by simp; omega
  refine ⟨sliced a l (l + m) cap 1, fun w => ?_, ?_, ?_⟩
  · rw [run_sliceAt_slice w _ _ _ _ _ Try.underlying22, run_slice_lh w _ _ _ _ Try.underlying22 _ _ _ _ (by omega) (by omega) (by omega), hs]
    simp only [Result.andThen, Int.toNat_natCast]
  · unfold sliced
    refine ⟨_, cap - l, by rw [hlen, Nat.add_sub_cancel_left], by rw [hlen]; omega, ?_, ?_⟩
    · intro ha
      split at ha
      · have := h2 ha; omega
      · cases a with
        | none => have := h2 rfl; omega
        | some a => cases ha
    · intro hne
      have hm : 0 < m := by rw [← hlen]; exact List.length_pos_iff.2 hne
      obtain ⟨b, o, rfl, hc⟩ := h3 (by intro e; rw [e] at hlm; simp at hlm; omega)
      refine ⟨b, o + l, ?_, ?_⟩
      · rw [if_neg (by omega)]
        simp [Addr.add]
      · intro i hi
        rw [hlen] at hi
        have := hc (l + i) (by omega)
        rw [← Nat.add_assoc] at this
        simpa using this
  · intro k hk
    unfold sliced at hk
    cases a with
    | none => split at hk <;> cases hk
    | some a =>
      split at hk
      · exact hk
      · cases hk; simp only [Value.ownBlock, Addr.add]; split <;> rfl

theorem exec_slice {o : Oper} {a : Act} {w : World} {ty : TypeId} {x lo hi : Operand} {v v' : Value} {l h : Value} (ho : o.op = .slice ty x (some lo) (some hi) none) (hx : a.eval x = v) (hl : a.eval lo = l) (hh : a.eval hi = h)
    (hr : (Instr.sliceAt ty v (some l) (some h) none).run Try.prog w = .ok v' w) : (execOp a.eval o).run Try.prog w = .ok (.value v') w := by
  unfold execOp
  simp only [ho, hx, hl, hh, Option.map_some, Option.map_none, Sem.run_bind, Sem.run_pure, hr, Result.andThen_ok]
theorem exec_conv {o : Oper} {a : Act} {w : World} {s d : TypeId} {x : Operand} {v v' : Value} (ho : o.op = .convert s d x) (hx : a.eval x = v)
    (hr : (convert s d v).run Try.prog w = .ok v' w) : (execOp a.eval o).run Try.prog w = .ok (.value v') w := by
  unfold execOp
  simp only [ho, hx, Sem.run_bind, Sem.run_pure, hr, Result.andThen_ok]

def rawO (bs : List UInt8) (lim : Int) (n : Int) (p : Nat) : Out (List UInt8) :=
  if max n 0 ≤ min ((bs.length : Int) - p) (rest lim p) then .ok ((bs.drop p).take n.toNat) (p + n.toNat)
  else if (bs.length : Int) - p < rest lim p then .up bs.length 1 else .up (p + (rest lim p).toNat) 2
def strV (bs : List UInt8) : Value := .string ⟨bs.toArray⟩

theorem Raw_any {w : World} {C : Nat} {v : Value} {bs : List UInt8} {p : Nat} {lim : Int} (h : Cur w C v bs p lim 0) (hi : Inv bs.length lim p) (n : Int) (hn1 : -9223372036854775808 ≤ n) (hn2 : n ≤ 9223372036854775807) :
    Calls Try.prog 25 #[.pointer (some ⟨C, 0, none⟩), .int .i64 n] w (Got C v bs lim strV (rawO bs lim n p) w) := by
  have HI := hid hi
  have H0 := hid h
  have hC := h.lt
  have ip := hi.place
  have il := hi.len
  obtain ⟨O, hO⟩ : ∃ O, rawO bs lim n p = O := ⟨_, rfl⟩
  obtain ⟨r, hr⟩ : ∃ r : Nat, rest lim p = r := ⟨(rest lim p).toNat, by have := hi.rest; omega⟩
  obtain ⟨m, hm⟩ : ∃ m : Nat, max n 0 = m := ⟨(max n 0).toNat, by omega⟩
  obtain ⟨L, hL⟩ : ∃ L : Nat, (bs.length : Int) - p = L := ⟨bs.length - p, by omega⟩
  have hmn : n.toNat = m := by omega
  have hr2 : r ≤ 1099511627776 := by have := hi.rest; omega
  have hO' : O = if m ≤ min L r then .ok ((bs.drop p).take m) (p + m) else if L < r then .up bs.length 1 else .up (p + r) 2 := by
    rw [← hO]
    unfold rawO
    rw [hm, hL, hr, hmn, Int.toNat_natCast]
    by_cases c1 : m ≤ min L r
    · rw [if_pos c1, if_pos (by omega)]
    · rw [if_neg c1, if_neg (by omega)]
      by_cases c2 : L < r
      · rw [if_pos c2, if_pos (by omega)]
      · rw [if_neg c2, if_neg (by omega)]
  have HO := hid hO'
  rw [hO]
  have HRR : Hid (∀ w2, New w w2 → Calls Try.prog 19 #[.pointer (some ⟨C, 0, none⟩)] w2 fun e w' => e = .returned (.int .i64 r) ∧ New w2 w') := by
    intro w2 hn
    have := Rest_any (h.new hn) hi
    rw [hr] at this
    exact this
  have em : (if n < 0 then (0 : Int) else n) = (m : Int) := by split <;> omega
  obtain ⟨M, hM⟩ : ∃ M : Nat, min L r = M := ⟨_, rfl⟩
  rw [hM] at HO
  have eM : (if (r : Int) < (L : Int) then (r : Int) else (L : Int)) = (M : Int) := by split <;> omega
  have eM2 : min (L : Int) (r : Int) = (M : Int) := by omega
  have hMl := hid (show M ≤ L ∧ M ≤ r by omega)
  have EL := hid hL
  have eL : IntKind.i64.wrap ((bs.length : Int) - p) = (L : Int) := by rw [IntWalk.i64_in _ (by omega)]; exact hL
  have EE := hid eL
  have c0 := h.c0
  obtain ⟨av, cv, rfl⟩ := h.rd.shape
  have HM := hid eM
  have HM2 := hid eM2
  clear hi h hO hO' hmn eL hL hM hr eM eM2 hm c0
  go_enter Try.func25, Try.ntmps25
  go_wp2_with fail
  refine (goOn_any H0.out).mono ?_
  rintro e w' ⟨rfl, rfl⟩
  go_upto_region 3 with fail
  have hn : New w w.drew := (Upd.refl _ _).drew
  go_cut [5, 6] (fun a b wx => a = .int .i64 L ∧ b = .int .i64 r ∧ New w wx)
  case first =>
    have eL := EE.out
    refine wp_region_noPanic ?_
    refine wp_region_held_drew (S := (New w)) (by kernel_rfl) (by first | exact hn | exact (Upd.refl _ _).drew | exact Upd.drew (by assumption)) (fun hn => ?_)
    refine wpAnyH_take (i := 0) (oi := { dst := some 11, op := Op.move (Operand.tmp 0), type := 29, pos := "cursor.go:111", after := #[], guard := none }) (v := ?v12x1) rfl (by kernel_rfl) (by kernel_rfl) (by kernel_rfl) (fun _ _ _ h => h) (Or.inl ⟨by rfl, ?y12x1⟩) hn ?r12x1
    case y12x1 => (intro wS hS; (try go_simp); (try with_reducible rfl))
    try simp only [Act.put, List.setIfInBounds_toArray, List.set_cons_zero, List.set_cons_succ]
    refine wpAnyH_take (i := 1) (oi := { dst := some 12, op := Op.nilCheck (Operand.tmp 11), type := 0, pos := "cursor.go:111", after := #[{ on := 0, ground := Ground.data }], guard := none }) (v := ?v12x2) rfl (by kernel_rfl) (by kernel_rfl) (by kernel_rfl) (fun _ _ _ h => h) (Or.inl ⟨by rfl, ?y12x2⟩) hn ?r12x2
    case y12x2 => (intro wS hS; (try go_simp); (try with_reducible rfl))
    try simp only [Act.put, List.setIfInBounds_toArray, List.set_cons_zero, List.set_cons_succ]
    refine wpAnyH_take (i := 2) (oi := { dst := some 13, op := Op.fieldAddr 54 (Operand.tmp 12) 0, type := 0, pos := "cursor.go:111", after := #[{ on := 1, ground := Ground.data }], guard := none }) (v := ?v12x3) rfl (by kernel_rfl) (by kernel_rfl) (by kernel_rfl) (fun _ _ _ h => h) (Or.inl ⟨by rfl, ?y12x3⟩) hn ?r12x3
    case y12x3 => (intro wS hS; (try go_simp); (try with_reducible rfl))
    try simp only [Act.put, List.setIfInBounds_toArray, List.set_cons_zero, List.set_cons_succ]
    refine wpAnyH_take (i := 3) (oi := { dst := some 14, op := Op.load 22 (Operand.tmp 13), type := 22, pos := "cursor.go:111", after := #[{ on := 2, ground := Ground.data }], guard := none }) (v := ?v12x4) rfl (by kernel_rfl) (by kernel_rfl) (by kernel_rfl) (fun _ _ _ h => h) (Or.inl ⟨by rfl, ?y12x4⟩) hn ?r12x4
    case y12x4 => (intro wS hS; have c := hS.cell H0.out.c0 (fun h => h); (try go_simp); (try with_reducible rfl))
    try simp only [Act.put, List.setIfInBounds_toArray, List.set_cons_zero, List.set_cons_succ]
    refine wpAnyH_take (i := 4) (oi := { dst := some 15, op := Op.call { callee := Callee.builtin Builtin.len, args := #[Operand.tmp 14], argTypes := #[22] }, type := 3, pos := "cursor.go:111", after := #[{ on := 3, ground := Ground.data }], guard := none }) (v := ?v12x5) rfl (by kernel_rfl) (by kernel_rfl) (by kernel_rfl) (fun _ _ _ h => h) (Or.inl ⟨by rfl, ?y12x5⟩) hn ?r12x5
    case y12x5 => (intro wS hS; (try go_simp); (try with_reducible rfl))
    try simp only [Act.put, List.setIfInBounds_toArray, List.set_cons_zero, List.set_cons_succ]
    refine wpAnyH_take (i := 5) (oi := { dst := some 16, op := Op.move (Operand.tmp 0), type := 29, pos := "cursor.go:111", after := #[], guard := none }) (v := ?v12x6) rfl (by kernel_rfl) (by kernel_rfl) (by kernel_rfl) (fun _ _ _ h => h) (Or.inl ⟨by rfl, ?y12x6⟩) hn ?r12x6
    case y12x6 => (intro wS hS; (try go_simp); (try with_reducible rfl))
    try simp only [Act.put, List.setIfInBounds_toArray, List.set_cons_zero, List.set_cons_succ]
    refine wpAnyH_take (i := 6) (oi := { dst := some 17, op := Op.nilCheck (Operand.tmp 16), type := 0, pos := "cursor.go:111", after := #[{ on := 5, ground := Ground.data }], guard := none }) (v := ?v12x7) rfl (by kernel_rfl) (by kernel_rfl) (by kernel_rfl) (fun _ _ _ h => h) (Or.inl ⟨by rfl, ?y12x7⟩) hn ?r12x7
    case y12x7 => (intro wS hS; (try go_simp); (try with_reducible rfl))
    try simp only [Act.put, List.setIfInBounds_toArray, List.set_cons_zero, List.set_cons_succ]
    refine wpAnyH_take (i := 7) (oi := { dst := some 18, op := Op.fieldAddr 54 (Operand.tmp 17) 1, type := 0, pos := "cursor.go:111", after := #[{ on := 6, ground := Ground.data }], guard := none }) (v := ?v12x8) rfl (by kernel_rfl) (by kernel_rfl) (by kernel_rfl) (fun _ _ _ h => h) (Or.inl ⟨by rfl, ?y12x8⟩) hn ?r12x8
    case y12x8 => (intro wS hS; (try go_simp); (try with_reducible rfl))
    try simp only [Act.put, List.setIfInBounds_toArray, List.set_cons_zero, List.set_cons_succ]
    refine wpAnyH_take (i := 8) (oi := { dst := some 19, op := Op.load 3 (Operand.tmp 18), type := 3, pos := "cursor.go:111", after := #[{ on := 7, ground := Ground.data }], guard := none }) (v := ?v12x9) rfl (by kernel_rfl) (by kernel_rfl) (by kernel_rfl) (fun _ _ _ h => h) (Or.inl ⟨by rfl, ?y12x9⟩) hn ?r12x9
    case y12x9 => (intro wS hS; have c := hS.cell H0.out.c1 (fun h => h); (try go_simp); (try with_reducible rfl))
    try simp only [Act.put, List.setIfInBounds_toArray, List.set_cons_zero, List.set_cons_succ]
    refine wpAnyH_take (i := 9) (oi := { dst := some 20, op := Op.binOp BinOp.sub 3 (Operand.tmp 15) (Operand.tmp 19) 3, type := 3, pos := "cursor.go:111", after := #[{ on := 4, ground := Ground.data }, { on := 8, ground := Ground.data }], guard := none }) (v := ?v12x10) rfl (by kernel_rfl) (by kernel_rfl) (by kernel_rfl) (fun _ _ _ h => h) (Or.inl ⟨by rfl, ?y12x10⟩) hn ?r12x10
    case y12x10 => (intro wS hS; (try go_simp); (try with_reducible rfl))
    try simp only [Act.put, List.setIfInBounds_toArray, List.set_cons_zero, List.set_cons_succ]
    refine wpAnyH_take (i := 10) (oi := { dst := some 21, op := Op.move (Operand.tmp 0), type := 29, pos := "cursor.go:111", after := #[], guard := none }) (v := ?v12x11) rfl (by kernel_rfl) (by kernel_rfl) (by kernel_rfl) (fun _ _ _ h => h) (Or.inl ⟨by rfl, ?y12x11⟩) hn ?r12x11
    case y12x11 => (intro wS hS; (try go_simp); (try with_reducible rfl))
    try simp only [Act.put, List.setIfInBounds_toArray, List.set_cons_zero, List.set_cons_succ]
    refine wpAnyH_ready (rs := [11]) (by kernel_rfl) (by simp) ?_
    refine AllReadyH.cons (o := { dst := some 22, op := Op.call { callee := Callee.value (Operand.func 19), args := #[Operand.tmp 21], argTypes := #[29] }, type := 3, pos := "cursor.go:111", after := #[{ on := 10, ground := Ground.data }], guard := none }) rfl (fun K hK => ?_) AllReadyH.nil
    go_simp
    refine (HRR.out _ hn).mono ?_
    rintro e wa ⟨rfl, hna⟩
    go_wp2_with fail
    have hn := New.trans hn hna
    refine hK.out _ _ (by first | exact hn | exact Upd.alloc hn _) (fun hn => ?_)
    clear hK K
    try simp only [Act.put, List.setIfInBounds_toArray, List.set_cons_zero, List.set_cons_succ]
    refine wpAnyH_take (i := 12) (oi := { dst := some 5, op := Op.assign (Operand.tmp 20), type := 3, pos := "cursor.go:111", after := #[{ on := 9, ground := Ground.data }, { on := 11, ground := Ground.chain }, { on := 0, ground := Ground.phase }, { on := 1, ground := Ground.phase }, { on := 2, ground := Ground.phase }, { on := 3, ground := Ground.phase }, { on := 4, ground := Ground.phase }, { on := 5, ground := Ground.phase }, { on := 6, ground := Ground.phase }, { on := 7, ground := Ground.phase }, { on := 8, ground := Ground.phase }, { on := 9, ground := Ground.phase }, { on := 10, ground := Ground.textOnly Departure.lateStores }, { on := 11, ground := Ground.textOnly Departure.lateStoresUnsure }], guard := none }) (v := ?v12x12) rfl (by kernel_rfl) (by kernel_rfl) (by kernel_rfl) (fun _ _ _ h => h) (Or.inl ⟨by rfl, ?y12x12⟩) hn ?r12x12
    case y12x12 => (intro wS hS; (try go_simp); (try with_reducible rfl))
    try simp only [Act.put, List.setIfInBounds_toArray, List.set_cons_zero, List.set_cons_succ]
    refine wpAnyH_take (i := 13) (oi := { dst := some 6, op := Op.assign (Operand.tmp 22), type := 3, pos := "cursor.go:111", after := #[{ on := 11, ground := Ground.data }, { on := 12, ground := Ground.chain }, { on := 0, ground := Ground.phase }, { on := 1, ground := Ground.phase }, { on := 2, ground := Ground.phase }, { on := 3, ground := Ground.phase }, { on := 4, ground := Ground.phase }, { on := 5, ground := Ground.phase }, { on := 6, ground := Ground.phase }, { on := 7, ground := Ground.phase }, { on := 8, ground := Ground.phase }, { on := 9, ground := Ground.phase }, { on := 10, ground := Ground.phase }, { on := 11, ground := Ground.phase }, { on := 12, ground := Ground.phase }], guard := none }) (v := ?v12x13) rfl (by kernel_rfl) (by kernel_rfl) (by kernel_rfl) (fun _ _ _ h => h) (Or.inl ⟨by rfl, ?y12x13⟩) hn ?r12x13
    case y12x13 => (intro wS hS; (try go_simp); (try with_reducible rfl))
    try simp only [Act.put, List.setIfInBounds_toArray, List.set_cons_zero, List.set_cons_succ]
    refine wpAnyH_done (by kernel_rfl) ?_ _
    refine NoPanic.normal ?_
    go_wp2_with fail
    go_meet
    exact ⟨rfl, rfl, hn⟩
  case rest =>
    obtain ⟨rfl, rfl, hw⟩ := hcut
    obtain ⟨w1, rfl⟩ : ∃ w1, w1 = wc := ⟨_, rfl⟩
    have H1 := hid (H0.out.new hw)
    have HW := hid hw
    clear hw
    go_upto_region 4 with fail
    go_cut [27] (fun b wx => b = .bool (decide (M < m)) ∧ w1 = wx)
    case first =>
      have hm2 := HM2.out
      go_wp2_with fail
      all_goals
        go_meet
        refine ⟨?_, rfl⟩
        congr 1
        rw [Bool.eq_iff_iff]
        simp only [decide_eq_true_eq]
        omega
    case rest =>
      obtain ⟨rfl, rfl⟩ := hcut
      by_cases hm : m ≤ M
      · rw [decide_eq_false (by omega : ¬ M < m)]
        obtain ⟨q, hq⟩ : ∃ q, p + m = q := ⟨_, rfl⟩
        have hpl : p + m ≤ bs.length := by have := hMl.out; have := EL.out; omega
        have HO1 : Hid (O = .ok ((bs.drop p).take m) q) := by show _ = _; rw [HO.out, if_pos hm, hq]
        obtain ⟨h2, u2⟩ := H1.out.at1 q
        obtain ⟨v', hs, hrd, -⟩ := slice_rd h2.rd p m hpl
        rw [hq] at hs
        have HS := hid hs
        have HRD := hid hrd
        have c1 := H1.out.c1
        have f1 := H1.out.f 1
        have U2 := hid (new_upd HW.out u2 hC)
        have HH2 := hid h2
        have hqi : (p : Int) + (m : Int) = (q : Int) := by omega
        have e9 : IntKind.i64.wrap ((q : Int) - (m : Int)) = (p : Int) := by rw [IntWalk.i64_in _ (by omega)]; omega
        have E9 := hid e9
        obtain ⟨w2, hw2⟩ : ∃ w2, w1.setCell ⟨C, 1, none⟩ (.int .i64 q) = w2 := ⟨_, rfl⟩
        rw [hw2] at HH2 U2 HRD
        clear hs hrd h2 u2 e9 hq
        go_upto_region 9 with fail
        clear hw2 c1 f1 hqi
        have hn : New w2 w2.drew := (Upd.refl _ _).drew
        have e9 := E9.out
        refine wp_region_noPanic ?_
        refine wp_region_held_drew (S := (New w2)) (by kernel_rfl) (by first | exact hn | exact (Upd.refl _ _).drew | exact Upd.drew (by assumption)) (fun hn => ?_)
        refine wpAnyH_take (i := 0) (oi := { dst := some 54, op := Op.move (Operand.tmp 0), type := 29, pos := "cursor.go:119", after := #[], guard := none }) (v := ?v13x1) rfl (by kernel_rfl) (by kernel_rfl) (by kernel_rfl) (fun _ _ _ h => h) (Or.inl ⟨by rfl, ?y13x1⟩) hn ?r13x1
        case y13x1 => (intro wS hS; (try go_simp); (try with_reducible rfl))
        try simp only [Act.put, List.setIfInBounds_toArray, List.set_cons_zero, List.set_cons_succ]
        refine wpAnyH_take (i := 1) (oi := { dst := some 55, op := Op.nilCheck (Operand.tmp 54), type := 0, pos := "cursor.go:119", after := #[{ on := 0, ground := Ground.data }], guard := none }) (v := ?v13x2) rfl (by kernel_rfl) (by kernel_rfl) (by kernel_rfl) (fun _ _ _ h => h) (Or.inl ⟨by rfl, ?y13x2⟩) hn ?r13x2
        case y13x2 => (intro wS hS; (try go_simp); (try with_reducible rfl))
        try simp only [Act.put, List.setIfInBounds_toArray, List.set_cons_zero, List.set_cons_succ]
        refine wpAnyH_take (i := 2) (oi := { dst := some 56, op := Op.fieldAddr 54 (Operand.tmp 55) 0, type := 0, pos := "cursor.go:119", after := #[{ on := 1, ground := Ground.data }], guard := none }) (v := ?v13x3) rfl (by kernel_rfl) (by kernel_rfl) (by kernel_rfl) (fun _ _ _ h => h) (Or.inl ⟨by rfl, ?y13x3⟩) hn ?r13x3
        case y13x3 => (intro wS hS; (try go_simp); (try with_reducible rfl))
        try simp only [Act.put, List.setIfInBounds_toArray, List.set_cons_zero, List.set_cons_succ]
        refine wpAnyH_take (i := 3) (oi := { dst := some 57, op := Op.load 22 (Operand.tmp 56), type := 22, pos := "cursor.go:119", after := #[{ on := 2, ground := Ground.data }], guard := none }) (v := ?v13x4) rfl (by kernel_rfl) (by kernel_rfl) (by kernel_rfl) (fun _ _ _ h => h) (Or.inl ⟨by rfl, ?y13x4⟩) hn ?r13x4
        case y13x4 => (intro wS hS; have c := hS.cell HH2.out.c0 (fun h => h); (try go_simp); (try with_reducible rfl))
        try simp only [Act.put, List.setIfInBounds_toArray, List.set_cons_zero, List.set_cons_succ]
        refine wpAnyH_take (i := 4) (oi := { dst := some 58, op := Op.move (Operand.tmp 0), type := 29, pos := "cursor.go:119", after := #[], guard := none }) (v := ?v13x5) rfl (by kernel_rfl) (by kernel_rfl) (by kernel_rfl) (fun _ _ _ h => h) (Or.inl ⟨by rfl, ?y13x5⟩) hn ?r13x5
        case y13x5 => (intro wS hS; (try go_simp); (try with_reducible rfl))
        try simp only [Act.put, List.setIfInBounds_toArray, List.set_cons_zero, List.set_cons_succ]
        refine wpAnyH_take (i := 5) (oi := { dst := some 59, op := Op.nilCheck (Operand.tmp 58), type := 0, pos := "cursor.go:119", after := #[{ on := 4, ground := Ground.data }], guard := none }) (v := ?v13x6) rfl (by kernel_rfl) (by kernel_rfl) (by kernel_rfl) (fun _ _ _ h => h) (Or.inl ⟨by rfl, ?y13x6⟩) hn ?r13x6
        case y13x6 => (intro wS hS; (try go_simp); (try with_reducible rfl))
        try simp only [Act.put, List.setIfInBounds_toArray, List.set_cons_zero, List.set_cons_succ]
        refine wpAnyH_take (i := 6) (oi := { dst := some 60, op := Op.fieldAddr 54 (Operand.tmp 59) 1, type := 0, pos := "cursor.go:119", after := #[{ on := 5, ground := Ground.data }], guard := none }) (v := ?v13x7) rfl (by kernel_rfl) (by kernel_rfl) (by kernel_rfl) (fun _ _ _ h => h) (Or.inl ⟨by rfl, ?y13x7⟩) hn ?r13x7
        case y13x7 => (intro wS hS; (try go_simp); (try with_reducible rfl))
        try simp only [Act.put, List.setIfInBounds_toArray, List.set_cons_zero, List.set_cons_succ]
        refine wpAnyH_take (i := 7) (oi := { dst := some 61, op := Op.load 3 (Operand.tmp 60), type := 3, pos := "cursor.go:119", after := #[{ on := 6, ground := Ground.data }], guard := none }) (v := ?v13x8) rfl (by kernel_rfl) (by kernel_rfl) (by kernel_rfl) (fun _ _ _ h => h) (Or.inl ⟨by rfl, ?y13x8⟩) hn ?r13x8
        case y13x8 => (intro wS hS; have c := hS.cell HH2.out.c1 (fun h => h); (try go_simp); (try with_reducible rfl))
        try simp only [Act.put, List.setIfInBounds_toArray, List.set_cons_zero, List.set_cons_succ]
        refine wpAnyH_take (i := 8) (oi := { dst := some 62, op := Op.move (Operand.tmp 1), type := 3, pos := "cursor.go:119", after := #[], guard := none }) (v := ?v13x9) rfl (by kernel_rfl) (by kernel_rfl) (by kernel_rfl) (fun _ _ _ h => h) (Or.inl ⟨by rfl, ?y13x9⟩) hn ?r13x9
        case y13x9 => (intro wS hS; (try go_simp); (try with_reducible rfl))
        try simp only [Act.put, List.setIfInBounds_toArray, List.set_cons_zero, List.set_cons_succ]
        refine wpAnyH_take (i := 9) (oi := { dst := some 63, op := Op.binOp BinOp.sub 3 (Operand.tmp 61) (Operand.tmp 62) 3, type := 3, pos := "cursor.go:119", after := #[{ on := 7, ground := Ground.data }, { on := 8, ground := Ground.data }], guard := none }) (v := ?v13x10) rfl (by kernel_rfl) (by kernel_rfl) (by kernel_rfl) (fun _ _ _ h => h) (Or.inl ⟨by rfl, ?y13x10⟩) hn ?r13x10
        case y13x10 => (intro wS hS; (try go_simp); (try with_reducible rfl))
        try simp only [Act.put, List.setIfInBounds_toArray, List.set_cons_zero, List.set_cons_succ]
        refine wpAnyH_take (i := 10) (oi := { dst := some 64, op := Op.move (Operand.tmp 0), type := 29, pos := "cursor.go:119", after := #[], guard := none }) (v := ?v13x11) rfl (by kernel_rfl) (by kernel_rfl) (by kernel_rfl) (fun _ _ _ h => h) (Or.inl ⟨by rfl, ?y13x11⟩) hn ?r13x11
        case y13x11 => (intro wS hS; (try go_simp); (try with_reducible rfl))
        try simp only [Act.put, List.setIfInBounds_toArray, List.set_cons_zero, List.set_cons_succ]
        refine wpAnyH_take (i := 11) (oi := { dst := some 65, op := Op.nilCheck (Operand.tmp 64), type := 0, pos := "cursor.go:119", after := #[{ on := 10, ground := Ground.data }], guard := none }) (v := ?v13x12) rfl (by kernel_rfl) (by kernel_rfl) (by kernel_rfl) (fun _ _ _ h => h) (Or.inl ⟨by rfl, ?y13x12⟩) hn ?r13x12
        case y13x12 => (intro wS hS; (try go_simp); (try with_reducible rfl))
        try simp only [Act.put, List.setIfInBounds_toArray, List.set_cons_zero, List.set_cons_succ]
        refine wpAnyH_take (i := 12) (oi := { dst := some 66, op := Op.fieldAddr 54 (Operand.tmp 65) 1, type := 0, pos := "cursor.go:119", after := #[{ on := 11, ground := Ground.data }], guard := none }) (v := ?v13x13) rfl (by kernel_rfl) (by kernel_rfl) (by kernel_rfl) (fun _ _ _ h => h) (Or.inl ⟨by rfl, ?y13x13⟩) hn ?r13x13
        case y13x13 => (intro wS hS; (try go_simp); (try with_reducible rfl))
        try simp only [Act.put, List.setIfInBounds_toArray, List.set_cons_zero, List.set_cons_succ]
        refine wpAnyH_take (i := 13) (oi := { dst := some 67, op := Op.load 3 (Operand.tmp 66), type := 3, pos := "cursor.go:119", after := #[{ on := 12, ground := Ground.data }], guard := none }) (v := ?v13x14) rfl (by kernel_rfl) (by kernel_rfl) (by kernel_rfl) (fun _ _ _ h => h) (Or.inl ⟨by rfl, ?y13x14⟩) hn ?r13x14
        case y13x14 => (intro wS hS; have c := hS.cell HH2.out.c1 (fun h => h); (try go_simp); (try with_reducible rfl))
        try simp only [Act.put, List.setIfInBounds_toArray, List.set_cons_zero, List.set_cons_succ]
        refine wpAnyH_take (i := 14) (oi := { dst := some 68, op := Op.slice 22 (Operand.tmp 57) (some (Operand.tmp 63)) (some (Operand.tmp 67)) none, type := 22, pos := "cursor.go:119", after := #[{ on := 3, ground := Ground.data }, { on := 9, ground := Ground.data }, { on := 13, ground := Ground.data }], guard := none }) (v := ?v13x15) rfl (by kernel_rfl) (by kernel_rfl) (by kernel_rfl) (fun _ _ _ h => h) (Or.inl ⟨by rfl, ?y13x15⟩) hn ?r13x15
        case y13x15 => (intro wS hS; rw [exec_slice (v := .slice av bs.length cv) (l := .int .i64 p) (h := .int .i64 q) rfl rfl rfl rfl (HS.out _)]; (try go_simp); (try with_reducible rfl))
        try simp only [Act.put, List.setIfInBounds_toArray, List.set_cons_zero, List.set_cons_succ]
        refine wpAnyH_take (i := 15) (oi := { dst := some 69, op := Op.convert 22 9 (Operand.tmp 68), type := 9, pos := "cursor.go:119", after := #[{ on := 14, ground := Ground.data }], guard := none }) (v := ?v13x16) rfl (by kernel_rfl) (by kernel_rfl) (by kernel_rfl) (fun _ _ _ h => h) (Or.inl ⟨by rfl, ?y13x16⟩) hn ?r13x16
        case y13x16 => (intro wS hS; rw [exec_conv (v := v') rfl rfl (HRD.out.new hS).str]; (try go_simp); (try with_reducible rfl))
        try simp only [Act.put, List.setIfInBounds_toArray, List.set_cons_zero, List.set_cons_succ]
        refine wpAnyH_take (i := 16) (oi := { dst := some 4, op := Op.assign (Operand.tmp 69), type := 9, pos := "cursor.go:119", after := #[{ on := 15, ground := Ground.data }, { on := 0, ground := Ground.phase }, { on := 1, ground := Ground.phase }, { on := 2, ground := Ground.phase }, { on := 3, ground := Ground.phase }, { on := 4, ground := Ground.phase }, { on := 5, ground := Ground.phase }, { on := 6, ground := Ground.phase }, { on := 7, ground := Ground.phase }, { on := 8, ground := Ground.phase }, { on := 9, ground := Ground.phase }, { on := 10, ground := Ground.phase }, { on := 11, ground := Ground.phase }, { on := 12, ground := Ground.phase }, { on := 13, ground := Ground.phase }, { on := 14, ground := Ground.phase }, { on := 15, ground := Ground.phase }], guard := none }) (v := ?v13x17) rfl (by kernel_rfl) (by kernel_rfl) (by kernel_rfl) (fun _ _ _ h => h) (Or.inl ⟨by rfl, ?y13x17⟩) hn ?r13x17
        case y13x17 => (intro wS hS; (try go_simp); (try with_reducible rfl))
        try simp only [Act.put, List.setIfInBounds_toArray, List.set_cons_zero, List.set_cons_succ]
        refine wpAnyH_done (by kernel_rfl) ?_ _
        refine NoPanic.normal ?_
        go_wp2_with fail
        go_ret
        refine Got.mk_ok HO1.out (U2.out.thenNew hn) ?_ (HH2.out.new hn)
        first | rfl | simp [strV]
      · rw [decide_eq_true (by omega : M < m)]
        have c0 := H1.out.c0
        have c1 := H1.out.c1
        by_cases hl : L < r
        · have HO1 : Hid (O = .up bs.length 1) := by show _ = _; rw [HO.out, if_neg hm, if_pos hl]
          have hl' : (L : Int) < (r : Int) := by omega
          go_wp2_with fail
          refine (giveUp_any H1.out bs.length 1).mono ?_
          rintro e w2 ⟨rfl, hc2, hu2⟩
          go_wp2_with fail
          exact ⟨rfl, Got.mk_up HO1.out (new_upd HW.out hu2 hC) rfl hc2⟩
        · have HO1 : Hid (O = .up (p + r) 2) := by show _ = _; rw [HO.out, if_neg hm, if_neg hl]
          have hl' : ¬ (L : Int) < (r : Int) := by omega
          go_wp2_with fail
          have hg := giveUp_any H1.out (p + r) 2
          rw [show (((p + r : Nat)) : Int) = (p : Int) + (r : Int) by omega] at hg
          refine hg.mono ?_
          rintro e w2 ⟨rfl, hc2, hu2⟩
          go_wp2_with fail
          exact ⟨rfl, Got.mk_up HO1.out (new_upd HW.out hu2 hC) rfl hc2⟩
end Go.Proofs.Ytkfohickmdkplaa

namespace Go.Proofs.Ytkfohickmdkplaa
open Go.RowKit Go.Proofs.Own

/-- a literal -/
theorem Rd.lit (w : World) (bs : List UInt8) (e : TypeId) : Rd (w.alloc (.cells (bs.map cb).toArray e)) (.slice (some ⟨w.heap.size, 0, none⟩) bs.length bs.length) bs := by
  refine ⟨_, _, rfl, Nat.le_refl _, (fun h => by cases h), fun _ => ⟨_, _, rfl, fun i hi => ?_⟩⟩
  rw [cell_of_row _ w.heap.size (0 + i) _ e (0, 0) (heap_alloc_new w _)]
  simp [hi]
end Go.Proofs.Ytkfohickmdkplaa
