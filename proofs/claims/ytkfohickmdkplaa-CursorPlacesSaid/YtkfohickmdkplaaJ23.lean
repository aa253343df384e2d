/-
  The cursor: the next bytes as they are.
-/
import Derived.Test.YtkfohickmdkplaaJ20
import Derived.Test.YtkfohickmdkplaaJ22
import Derived.Laws.Slices
namespace Go.Proofs.Ytkfohickmdkplaa
open Go.RowKit Go.Proofs.Leb Go.Proofs.Own Go.Proofs.Cur
set_option maxRecDepth 100000
set_option maxHeartbeats 4000000

/-- a part of a slice of bytes -/
theorem slice_rd {w : World} {v : Value} {bs : List UInt8} (h : Rd w v bs) (l m : Nat) (hlm : l + m ≤ bs.length) :
    ∃ v', (∀ w, (Instr.sliceAt 22 v (some (.int .i64 l)) (some (.int .i64 (l + m : Nat))) none).run Try.prog w = .ok v' w) ∧ Rd w v' ((bs.drop l).take m) ∧ (∀ k, v'.ownBlock = some k → v.ownBlock = some k) := by
  obtain ⟨a, cap, rfl, h1, h2, h3⟩ := h
  have hs : ∀ w, (sizeOf (Try.prog.elem 22)).run Try.prog w = .ok 1 w := fun _ => rfl
  have hlen : ((bs.drop l).take m).length = m := by simp; omega
  refine ⟨sliced a l (l + m) cap 1, fun w => ?_, ?_, ?_⟩
  · rw [run_sliceAt_slice w _ _ _ _ _ Try.underlying22, run_slice_lh w _ _ _ _ Try.underlying22 _ _ _ _ (by omega) (by omega) (by omega), hs]
    simp only [Result.andThen, Int.toNat_natCast]
  · unfold sliced
    refine ⟨_, cap - l, by rw [hlen, Nat.add_sub_cancel_left], by rw [hlen]; omega, ?_, ?_⟩
    · intro ha
      split at ha
      · have := h2 ha; omega
      · cases a with
        | none => have := h2 rfl; omega
        | some a => cases ha
    · intro hne
      have hm : 0 < m := by rw [← hlen]; exact List.length_pos_iff.2 hne
      obtain ⟨b, o, rfl, hc⟩ := h3 (by intro e; rw [e] at hlm; simp at hlm; omega)
      refine ⟨b, o + l, ?_, ?_⟩
      · rw [if_neg (by omega)]
        simp [Addr.add]
      · intro i hi
        rw [hlen] at hi
        have := hc (l + i) (by omega)
        rw [← Nat.add_assoc] at this
        simpa using this
  · intro k hk
    unfold sliced at hk
    cases a with
    | none => split at hk <;> cases hk
    | some a =>
      split at hk
      · exact hk
      · cases hk; simp only [Value.ownBlock, Addr.add]; split <;> rfl

theorem exec_slice {o : Oper} {a : Act} {w : World} {ty : TypeId} {x lo hi : Operand} {v v' : Value} {l h : Value} (ho : o.op = .slice ty x (some lo) (some hi) none) (hx : a.eval x = v) (hl : a.eval lo = l) (hh : a.eval hi = h)
    (hr : (Instr.sliceAt ty v (some l) (some h) none).run Try.prog w = .ok v' w) : (execOp a.eval o).run Try.prog w = .ok (.value v') w := by
  unfold execOp
  simp only [ho, hx, hl, hh, Option.map_some, Option.map_none, Sem.run_bind, Sem.run_pure, hr, Result.andThen_ok]
theorem exec_conv {o : Oper} {a : Act} {w : World} {s d : TypeId} {x : Operand} {v v' : Value} (ho : o.op = .convert s d x) (hx : a.eval x = v)
    (hr : (convert s d v).run Try.prog w = .ok v' w) : (execOp a.eval o).run Try.prog w = .ok (.value v') w := by
  unfold execOp
  simp only [ho, hx, Sem.run_bind, Sem.run_pure, hr, Result.andThen_ok]

def rawO (bs : List UInt8) (lim : Int) (n : Int) (p : Nat) : Out (List UInt8) :=
  if max n 0 ≤ min ((bs.length : Int) - p) (rest lim p) then .ok ((bs.drop p).take n.toNat) (p + n.toNat)
  else if (bs.length : Int) - p < rest lim p then .up bs.length 1 else .up (p + (rest lim p).toNat) 2
def strV (bs : List UInt8) : Value := .string ⟨bs.toArray⟩

theorem Raw_any {w : World} {C : Nat} {v : Value} {bs : List UInt8} {p : Nat} {lim : Int} (h : Cur w C v bs p lim 0) (hi : Inv bs.length lim p) (n : Int) (hn1 : -9223372036854775808 ≤ n) (hn2 : n ≤ 9223372036854775807) :
    Calls Try.prog 25 #[.pointer (some ⟨C, 0, none⟩), .int .i64 n] w (Got C v bs lim strV (rawO bs lim n p) w) := by
  have HI := hid hi
  have H0 := hid h
  have hC := h.lt
  have ip := hi.place
  have il := hi.len
  obtain ⟨O, hO⟩ : ∃ O, rawO bs lim n p = O := ⟨_, rfl⟩
  obtain ⟨r, hr⟩ : ∃ r : Nat, rest lim p = r := ⟨(rest lim p).toNat, by have := hi.rest; omega⟩
  obtain ⟨m, hm⟩ : ∃ m : Nat, max n 0 = m := ⟨(max n 0).toNat, by omega⟩
  obtain ⟨L, hL⟩ : ∃ L : Nat, (bs.length : Int) - p = L := ⟨bs.length - p, by omega⟩
  have hmn : n.toNat = m := by omega
  have hr2 : r ≤ 1099511627776 := by have := hi.rest; omega
  have hO' : O = if m ≤ min L r then .ok ((bs.drop p).take m) (p + m) else if L < r then .up bs.length 1 else .up (p + r) 2 := by
    rw [← hO]
    unfold rawO
    rw [hm, hL, hr, hmn, Int.toNat_natCast]
    by_cases c1 : m ≤ min L r
    · rw [if_pos c1, if_pos (by omega)]
    · rw [if_neg c1, if_neg (by omega)]
      by_cases c2 : L < r
      · rw [if_pos c2, if_pos (by omega)]
      · rw [if_neg c2, if_neg (by omega)]
  have HO := hid hO'
  rw [hO]
  have HRR : Hid (∀ w2, New w w2 → Calls Try.prog 19 #[.pointer (some ⟨C, 0, none⟩)] w2 fun e w' => e = .returned (.int .i64 r) ∧ New w2 w') := by
    intro w2 hn
    have := Rest_any (h.new hn) hi
    rw [hr] at this
    exact this
  have em : (if n < 0 then (0 : Int) else n) = (m : Int) := by split <;> omega
  obtain ⟨M, hM⟩ : ∃ M : Nat, min L r = M := ⟨_, rfl⟩
  rw [hM] at HO
  have eM : (if (r : Int) < (L : Int) then (r : Int) else (L : Int)) = (M : Int) := by split <;> omega
  have eM2 : min (L : Int) (r : Int) = (M : Int) := by omega
  have hMl := hid (show M ≤ L ∧ M ≤ r by omega)
  have EL := hid hL
  have eL : IntKind.i64.wrap ((bs.length : Int) - p) = (L : Int) := by rw [IntWalk.i64_in _ (by omega)]; exact hL
  have EE := hid eL
  have c0 := h.c0
  obtain ⟨av, cv, rfl⟩ := h.rd.shape
  have HM := hid eM
  have HM2 := hid eM2
  clear hi h hO hO' hmn eL hL hM hr eM eM2 hm c0
  go_enter Try.func25, Try.ntmps25
  go_wp2_with fail
  refine (goOn_any H0.out).mono ?_
  rintro e w' ⟨rfl, rfl⟩
  go_upto_region 3 with fail
  have hn : New w w.drew := (Upd.refl _ _).drew
  go_cut [5, 6] (fun a b wx => a = .int .i64 L ∧ b = .int .i64 r ∧ New w wx)
  case first =>
    have eL := EE.out
    refine wp_region_noPanic ?_
    refine wp_region_held_drew (S := (New w)) (by kernel_rfl) (by first | exact hn | exact (Upd.refl _ _).drew | exact Upd.drew (by assumption)) (fun hn => ?_)
    refine wpAnyH_take (i := 0) (oi := { dst := some 11, op := Op.move (Operand.tmp 0), type := 29, pos := "cursor.go:111", after := #[], guard := none }) (v := ?v12x1) rfl (by kernel_rfl) (by kernel_rfl) (by kernel_rfl) (fun _ _ _ h => h) (Or.inl ⟨by rfl, ?y12x1⟩) hn ?r12x1
    case y12x1 => (intro wS hS; (try go_simp); (try with_reducible rfl))
    try simp only [Act.put, List.setIfInBounds_toArray, List.set_cons_zero, List.set_cons_succ]
    refine wpAnyH_take (i := 1) (oi := { dst := some 12, op := Op.nilCheck (Operand.tmp 11), type := 0, pos := "cursor.go:111", after := #[{ on := 0, ground := Ground.data }], guard := none }) (v := ?v12x2) rfl (by kernel_rfl) (by kernel_rfl) (by kernel_rfl) (fun _ _ _ h => h) (Or.inl ⟨by rfl, ?y12x2⟩) hn ?r12x2
    case y12x2 => (intro wS hS; (try go_simp); (try with_reducible rfl))
    try simp only [Act.put, List.setIfInBounds_toArray, List.set_cons_zero, List.set_cons_succ]
    refine wpAnyH_take (i := 2) (oi := { dst := some 13, op := Op.fieldAddr 54 (Operand.tmp 12) 0, type := 0, pos := "cursor.go:111", after := #[{ on := 1, ground := Ground.data }], guard := none }) (v := ?v12x3) rfl (by kernel_rfl) (by kernel_rfl) (by kernel_rfl) (fun _ _ _ h => h) (Or.inl ⟨by rfl, ?y12x3⟩) hn ?r12x3
    case y12x3 => (intro wS hS; (try go_simp); (try with_reducible rfl))
    try simp only [Act.put, List.setIfInBounds_toArray, List.set_cons_zero, List.set_cons_succ]
    refine wpAnyH_take (i := 3) (oi := { dst := some 14, op := Op.load 22 (Operand.tmp 13), type := 22, pos := "cursor.go:111", after := #[{ on := 2, ground := Ground.data }], guard := none }) (v := ?v12x4) rfl (by kernel_rfl) (by kernel_rfl) (by kernel_rfl) (fun _ _ _ h => h) (Or.inl ⟨by rfl, ?y12x4⟩) hn ?r12x4
    case y12x4 => (intro wS hS; have c := hS.cell H0.out.c0 (fun h => h); (try go_simp); (try with_reducible rfl))
    try simp only [Act.put, List.setIfInBounds_toArray, List.set_cons_zero, List.set_cons_succ]
    refine wpAnyH_take (i := 4) (oi := { dst := some 15, op := Op.call { callee := Callee.builtin Builtin.len, args := #[Operand.tmp 14], argTypes := #[22] }, type := 3, pos := "cursor.go:111", after := #[{ on := 3, ground := Ground.data }], guard := none }) (v := ?v12x5) rfl (by kernel_rfl) (by kernel_rfl) (by kernel_rfl) (fun _ _ _ h => h) (Or.inl ⟨by rfl, ?y12x5⟩) hn ?r12x5
    case y12x5 => (intro wS hS; (try go_simp); (try with_reducible rfl))
    try simp only [Act.put, List.setIfInBounds_toArray, List.set_cons_zero, List.set_cons_succ]
    refine wpAnyH_take (i := 5) (oi := { dst := some 16, op := Op.move (Operand.tmp 0), type := 29, pos := "cursor.go:111", after := #[], guard := none }) (v := ?v12x6) rfl (by kernel_rfl) (by kernel_rfl) (by kernel_rfl) (fun _ _ _ h => h) (Or.inl ⟨by rfl, ?y12x6⟩) hn ?r12x6
    case y12x6 => (intro wS hS; (try go_simp); (try with_reducible rfl))
    try simp only [Act.put, List.setIfInBounds_toArray, List.set_cons_zero, List.set_cons_succ]
    refine wpAnyH_take (i := 6) (oi := { dst := some 17, op := Op.nilCheck (Operand.tmp 16), type := 0, pos := "cursor.go:111", after := #[{ on := 5, ground := Ground.data }], guard := none }) (v := ?v12x7) rfl (by kernel_rfl) (by kernel_rfl) (by kernel_rfl) (fun _ _ _ h => h) (Or.inl ⟨by rfl, ?y12x7⟩) hn ?r12x7
    case y12x7 => (intro wS hS; (try go_simp); (try with_reducible rfl))
    try simp only [Act.put, List.setIfInBounds_toArray, List.set_cons_zero, List.set_cons_succ]
    refine wpAnyH_take (i := 7) (oi := { dst := some 18, op := Op.fieldAddr 54 (Operand.tmp 17) 1, type := 0, pos := "cursor.go:111", after := #[{ on := 6, ground := Ground.data }], guard := none }) (v := ?v12x8) rfl (by kernel_rfl) (by kernel_rfl) (by kernel_rfl) (fun _ _ _ h => h) (Or.inl ⟨by rfl, ?y12x8⟩) hn ?r12x8
    case y12x8 => (intro wS hS; (try go_simp); (try with_reducible rfl))
    try simp only [Act.put, List.setIfInBounds_toArray, List.set_cons_zero, List.set_cons_succ]
    refine wpAnyH_take (i := 8) (oi := { dst := some 19, op := Op.load 3 (Operand.tmp 18), type := 3, pos := "cursor.go:111", after := #[{ on := 7, ground := Ground.data }], guard := none }) (v := ?v12x9) rfl (by kernel_rfl) (by kernel_rfl) (by kernel_rfl) (fun _ _ _ h => h) (Or.inl ⟨by rfl, ?y12x9⟩) hn ?r12x9
    case y12x9 => (intro wS hS; have c := hS.cell H0.out.c1 (fun h => h); (try go_simp); (try with_reducible rfl))
    try simp only [Act.put, List.setIfInBounds_toArray, List.set_cons_zero, List.set_cons_succ]
    refine wpAnyH_take (i := 9) (oi := { dst := some 20, op := Op.binOp BinOp.sub 3 (Operand.tmp 15) (Operand.tmp 19) 3, type := 3, pos := "cursor.go:111", after := #[{ on := 4, ground := Ground.data }, { on := 8, ground := Ground.data }], guard := none }) (v := ?v12x10) rfl (by kernel_rfl) (by kernel_rfl) (by kernel_rfl) (fun _ _ _ h => h) (Or.inl ⟨by rfl, ?y12x10⟩) hn ?r12x10
    case y12x10 => (intro wS hS; (try go_simp); (try with_reducible rfl))
    try simp only [Act.put, List.setIfInBounds_toArray, List.set_cons_zero, List.set_cons_succ]
    refine wpAnyH_take (i := 10) (oi := { dst := some 21, op := Op.move (Operand.tmp 0), type := 29, pos := "cursor.go:111", after := #[], guard := none }) (v := ?v12x11) rfl (by kernel_rfl) (by kernel_rfl) (by kernel_rfl) (fun _ _ _ h => h) (Or.inl ⟨by rfl, ?y12x11⟩) hn ?r12x11
    case y12x11 => (intro wS hS; (try go_simp); (try with_reducible rfl))
    try simp only [Act.put, List.setIfInBounds_toArray, List.set_cons_zero, List.set_cons_succ]
    refine wpAnyH_ready (rs := [11]) (by kernel_rfl) (by simp) ?_
    refine AllReadyH.cons (o := { dst := some 22, op := Op.call { callee := Callee.value (Operand.func 19), args := #[Operand.tmp 21], argTypes := #[29] }, type := 3, pos := "cursor.go:111", after := #[{ on := 10, ground := Ground.data }], guard := none }) rfl (fun K hK => ?_) AllReadyH.nil
    go_simp
    refine (HRR.out _ hn).mono ?_
    rintro e wa ⟨rfl, hna⟩
    go_wp2_with fail
    have hn := New.trans hn hna
    refine hK.out _ _ (by first | exact hn | exact Upd.alloc hn _) (fun hn => ?_)
    clear hK K
    try simp only [Act.put, List.setIfInBounds_toArray, List.set_cons_zero, List.set_cons_succ]
    refine wpAnyH_take (i := 12) (oi := { dst := some 5, op := Op.assign (Operand.tmp 20), type := 3, pos := "cursor.go:111", after := #[{ on := 9, ground := Ground.data }, { on := 11, ground := Ground.chain }, { on := 0, ground := Ground.phase }, { on := 1, ground := Ground.phase }, { on := 2, ground := Ground.phase }, { on := 3, ground := Ground.phase }, { on := 4, ground := Ground.phase }, { on := 5, ground := Ground.phase }, { on := 6, ground := Ground.phase }, { on := 7, ground := Ground.phase }, { on := 8, ground := Ground.phase }, { on := 9, ground := Ground.phase }, { on := 10, ground := Ground.textOnly Departure.lateStores }, { on := 11, ground := Ground.textOnly Departure.lateStoresUnsure }], guard := none }) (v := ?v12x12) rfl (by kernel_rfl) (by kernel_rfl) (by kernel_rfl) (fun _ _ _ h => h) (Or.inl ⟨by rfl, ?y12x12⟩) hn ?r12x12
    case y12x12 => (intro wS hS; (try go_simp); (try with_reducible rfl))
    try simp only [Act.put, List.setIfInBounds_toArray, List.set_cons_zero, List.set_cons_succ]
    refine wpAnyH_take (i := 13) (oi := { dst := some 6, op := Op.assign (Operand.tmp 22), type := 3, pos := "cursor.go:111", after := #[{ on := 11, ground := Ground.data }, { on := 12, ground := Ground.chain }, { on := 0, ground := Ground.phase }, { on := 1, ground := Ground.phase }, { on := 2, ground := Ground.phase }, { on := 3, ground := Ground.phase }, { on := 4, ground := Ground.phase }, { on := 5, ground := Ground.phase }, { on := 6, ground := Ground.phase }, { on := 7, ground := Ground.phase }, { on := 8, ground := Ground.phase }, { on := 9, ground := Ground.phase }, { on := 10, ground := Ground.phase }, { on := 11, ground := Ground.phase }, { on := 12, ground := Ground.phase }], guard := none }) (v := ?v12x13) rfl (by kernel_rfl) (by kernel_rfl) (by kernel_rfl) (fun _ _ _ h => h) (Or.inl ⟨by rfl, ?y12x13⟩) hn ?r12x13
    case y12x13 => (intro wS hS; (try go_simp); (try with_reducible rfl))
    try simp only [Act.put, List.setIfInBounds_toArray, List.set_cons_zero, List.set_cons_succ]
    refine wpAnyH_done (by kernel_rfl) ?_ _
    refine NoPanic.normal ?_
    go_wp2_with fail
    go_meet
    exact ⟨rfl, rfl, hn⟩
  case rest =>
    obtain ⟨rfl, rfl, hw⟩ := hcut
    obtain ⟨w1, rfl⟩ : ∃ w1, w1 = wc := ⟨_, rfl⟩
    have H1 := hid (H0.out.new hw)
    have HW := hid hw
    clear hw
    go_upto_region 4 with fail
    go_cut [27] (fun b wx => b = .bool (decide (M < m)) ∧ w1 = wx)
    case first =>
      have hm2 := HM2.out
      go_wp2_with fail
      all_goals
        go_meet
        refine ⟨?_, rfl⟩
        congr 1
        rw [Bool.eq_iff_iff]
        simp only [decide_eq_true_eq]
        omega
    case rest =>
      obtain ⟨rfl, rfl⟩ := hcut
      by_cases hm : m ≤ M
      · rw [decide_eq_false (by omega : ¬ M < m)]
        obtain ⟨q, hq⟩ : ∃ q, p + m = q := ⟨_, rfl⟩
        have hpl : p + m ≤ bs.length := by have := hMl.out; have := EL.out; omega
        have HO1 : Hid (O = .ok ((bs.drop p).take m) q) := by show _ = _; rw [HO.out, if_pos hm, hq]
        obtain ⟨h2, u2⟩ := H1.out.at1 q
        obtain ⟨v', hs, hrd, -⟩ := slice_rd h2.rd p m hpl
        rw [hq] at hs
        have HS := hid hs
        have HRD := hid hrd
        have c1 := H1.out.c1
        have f1 := H1.out.f 1
        have U2 := hid (new_upd HW.out u2 hC)
        have HH2 := hid h2
        have hqi : (p : Int) + (m : Int) = (q : Int) := by omega
        have e9 : IntKind.i64.wrap ((q : Int) - (m : Int)) = (p : Int) := by rw [IntWalk.i64_in _ (by omega)]; omega
        have E9 := hid e9
        obtain ⟨w2, hw2⟩ : ∃ w2, w1.setCell ⟨C, 1, none⟩ (.int .i64 q) = w2 := ⟨_, rfl⟩
        rw [hw2] at HH2 U2 HRD
        clear hs hrd h2 u2 e9 hq
        go_upto_region 9 with fail
        clear hw2 c1 f1 hqi
        have hn : New w2 w2.drew := (Upd.refl _ _).drew
        have e9 := E9.out
        refine wp_region_noPanic ?_
        refine wp_region_held_drew (S := (New w2)) (by kernel_rfl) (by first | exact hn | exact (Upd.refl _ _).drew | exact Upd.drew (by assumption)) (fun hn => ?_)
        refine wpAnyH_take (i := 0) (oi := { dst := some 54, op := Op.move (Operand.tmp 0), type := 29, pos := "cursor.go:119", after := #[], guard := none }) (v := ?v13x1) rfl (by kernel_rfl) (by kernel_rfl) (by kernel_rfl) (fun _ _ _ h => h) (Or.inl ⟨by rfl, ?y13x1⟩) hn ?r13x1
        case y13x1 => (intro wS hS; (try go_simp); (try with_reducible rfl))
        try simp only [Act.put, List.setIfInBounds_toArray, List.set_cons_zero, List.set_cons_succ]
        refine wpAnyH_take (i := 1) (oi := { dst := some 55, op := Op.nilCheck (Operand.tmp 54), type := 0, pos := "cursor.go:119", after := #[{ on := 0, ground := Ground.data }], guard := none }) (v := ?v13x2) rfl (by kernel_rfl) (by kernel_rfl) (by kernel_rfl) (fun _ _ _ h => h) (Or.inl ⟨by rfl, ?y13x2⟩) hn ?r13x2
        case y13x2 => (intro wS hS; (try go_simp); (try with_reducible rfl))
        try simp only [Act.put, List.setIfInBounds_toArray, List.set_cons_zero, List.set_cons_succ]
        refine wpAnyH_take (i := 2) (oi := { dst := some 56, op := Op.fieldAddr 54 (Operand.tmp 55) 0, type := 0, pos := "cursor.go:119", after := #[{ on := 1, ground := Ground.data }], guard := none }) (v := ?v13x3) rfl (by kernel_rfl) (by kernel_rfl) (by kernel_rfl) (fun _ _ _ h => h) (Or.inl ⟨by rfl, ?y13x3⟩) hn ?r13x3
        case y13x3 => (intro wS hS; (try go_simp); (try with_reducible rfl))
        try simp only [Act.put, List.setIfInBounds_toArray, List.set_cons_zero, List.set_cons_succ]
        refine wpAnyH_take (i := 3) (oi := { dst := some 57, op := Op.load 22 (Operand.tmp 56), type := 22, pos := "cursor.go:119", after := #[{ on := 2, ground := Ground.data }], guard := none }) (v := ?v13x4) rfl (by kernel_rfl) (by kernel_rfl) (by kernel_rfl) (fun _ _ _ h => h) (Or.inl ⟨by rfl, ?y13x4⟩) hn ?r13x4
        case y13x4 => (intro wS hS; have c := hS.cell HH2.out.c0 (fun h => h); (try go_simp); (try with_reducible rfl))
        try simp only [Act.put, List.setIfInBounds_toArray, List.set_cons_zero, List.set_cons_succ]
        refine wpAnyH_take (i := 4) (oi := { dst := some 58, op := Op.move (Operand.tmp 0), type := 29, pos := "cursor.go:119", after := #[], guard := none }) (v := ?v13x5) rfl (by kernel_rfl) (by kernel_rfl) (by kernel_rfl) (fun _ _ _ h => h) (Or.inl ⟨by rfl, ?y13x5⟩) hn ?r13x5
        case y13x5 => (intro wS hS; (try go_simp); (try with_reducible rfl))
        try simp only [Act.put, List.setIfInBounds_toArray, List.set_cons_zero, List.set_cons_succ]
        refine wpAnyH_take (i := 5) (oi := { dst := some 59, op := Op.nilCheck (Operand.tmp 58), type := 0, pos := "cursor.go:119", after := #[{ on := 4, ground := Ground.data }], guard := none }) (v := ?v13x6) rfl (by kernel_rfl) (by kernel_rfl) (by kernel_rfl) (fun _ _ _ h => h) (Or.inl ⟨by rfl, ?y13x6⟩) hn ?r13x6
        case y13x6 => (intro wS hS; (try go_simp); (try with_reducible rfl))
        try simp only [Act.put, List.setIfInBounds_toArray, List.set_cons_zero, List.set_cons_succ]
        refine wpAnyH_take (i := 6) (oi := { dst := some 60, op := Op.fieldAddr 54 (Operand.tmp 59) 1, type := 0, pos := "cursor.go:119", after := #[{ on := 5, ground := Ground.data }], guard := none }) (v := ?v13x7) rfl (by kernel_rfl) (by kernel_rfl) (by kernel_rfl) (fun _ _ _ h => h) (Or.inl ⟨by rfl, ?y13x7⟩) hn ?r13x7
        case y13x7 => (intro wS hS; (try go_simp); (try with_reducible rfl))
        try simp only [Act.put, List.setIfInBounds_toArray, List.set_cons_zero, List.set_cons_succ]
        refine wpAnyH_take (i := 7) (oi := { dst := some 61, op := Op.load 3 (Operand.tmp 60), type := 3, pos := "cursor.go:119", after := #[{ on := 6, ground := Ground.data }], guard := none }) (v := ?v13x8) rfl (by kernel_rfl) (by kernel_rfl) (by kernel_rfl) (fun _ _ _ h => h) (Or.inl ⟨by rfl, ?y13x8⟩) hn ?r13x8
        case y13x8 => (intro wS hS; have c := hS.cell HH2.out.c1 (fun h => h); (try go_simp); (try with_reducible rfl))
        try simp only [Act.put, List.setIfInBounds_toArray, List.set_cons_zero, List.set_cons_succ]
        refine wpAnyH_take (i := 8) (oi := { dst := some 62, op := Op.move (Operand.tmp 1), type := 3, pos := "cursor.go:119", after := #[], guard := none }) (v := ?v13x9) rfl (by kernel_rfl) (by kernel_rfl) (by kernel_rfl) (fun _ _ _ h => h) (Or.inl ⟨by rfl, ?y13x9⟩) hn ?r13x9
        case y13x9 => (intro wS hS; (try go_simp); (try with_reducible rfl))
        try simp only [Act.put, List.setIfInBounds_toArray, List.set_cons_zero, List.set_cons_succ]
        refine wpAnyH_take (i := 9) (oi := { dst := some 63, op := Op.binOp BinOp.sub 3 (Operand.tmp 61) (Operand.tmp 62) 3, type := 3, pos := "cursor.go:119", after := #[{ on := 7, ground := Ground.data }, { on := 8, ground := Ground.data }], guard := none }) (v := ?v13x10) rfl (by kernel_rfl) (by kernel_rfl) (by kernel_rfl) (fun _ _ _ h => h) (Or.inl ⟨by rfl, ?y13x10⟩) hn ?r13x10
        case y13x10 => (intro wS hS; (try go_simp); (try with_reducible rfl))
        try simp only [Act.put, List.setIfInBounds_toArray, List.set_cons_zero, List.set_cons_succ]
        refine wpAnyH_take (i := 10) (oi := { dst := some 64, op := Op.move (Operand.tmp 0), type := 29, pos := "cursor.go:119", after := #[], guard := none }) (v := ?v13x11) rfl (by kernel_rfl) (by kernel_rfl) (by kernel_rfl) (fun _ _ _ h => h) (Or.inl ⟨by rfl, ?y13x11⟩) hn ?r13x11
        case y13x11 => (intro wS hS; (try go_simp); (try with_reducible rfl))
        try simp only [Act.put, List.setIfInBounds_toArray, List.set_cons_zero, List.set_cons_succ]
        refine wpAnyH_take (i := 11) (oi := { dst := some 65, op := Op.nilCheck (Operand.tmp 64), type := 0, pos := "cursor.go:119", after := #[{ on := 10, ground := Ground.data }], guard := none }) (v := ?v13x12) rfl (by kernel_rfl) (by kernel_rfl) (by kernel_rfl) (fun _ _ _ h => h) (Or.inl ⟨by rfl, ?y13x12⟩) hn ?r13x12
        case y13x12 => (intro wS hS; (try go_simp); (try with_reducible rfl))
        try simp only [Act.put, List.setIfInBounds_toArray, List.set_cons_zero, List.set_cons_succ]
        refine wpAnyH_take (i := 12) (oi := { dst := some 66, op := Op.fieldAddr 54 (Operand.tmp 65) 1, type := 0, pos := "cursor.go:119", after := #[{ on := 11, ground := Ground.data }], guard := none }) (v := ?v13x13) rfl (by kernel_rfl) (by kernel_rfl) (by kernel_rfl) (fun _ _ _ h => h) (Or.inl ⟨by rfl, ?y13x13⟩) hn ?r13x13
        case y13x13 => (intro wS hS; (try go_simp); (try with_reducible rfl))
        try simp only [Act.put, List.setIfInBounds_toArray, List.set_cons_zero, List.set_cons_succ]
        refine wpAnyH_take (i := 13) (oi := { dst := some 67, op := Op.load 3 (Operand.tmp 66), type := 3, pos := "cursor.go:119", after := #[{ on := 12, ground := Ground.data }], guard := none }) (v := ?v13x14) rfl (by kernel_rfl) (by kernel_rfl) (by kernel_rfl) (fun _ _ _ h => h) (Or.inl ⟨by rfl, ?y13x14⟩) hn ?r13x14
        case y13x14 => (intro wS hS; have c := hS.cell HH2.out.c1 (fun h => h); (try go_simp); (try with_reducible rfl))
        try simp only [Act.put, List.setIfInBounds_toArray, List.set_cons_zero, List.set_cons_succ]
        refine wpAnyH_take (i := 14) (oi := { dst := some 68, op := Op.slice 22 (Operand.tmp 57) (some (Operand.tmp 63)) (some (Operand.tmp 67)) none, type := 22, pos := "cursor.go:119", after := #[{ on := 3, ground := Ground.data }, { on := 9, ground := Ground.data }, { on := 13, ground := Ground.data }], guard := none }) (v := ?v13x15) rfl (by kernel_rfl) (by kernel_rfl) (by kernel_rfl) (fun _ _ _ h => h) (Or.inl ⟨by rfl, ?y13x15⟩) hn ?r13x15
        case y13x15 => (intro wS hS; rw [exec_slice (v := .slice av bs.length cv) (l := .int .i64 p) (h := .int .i64 q) rfl rfl rfl rfl (HS.out _)]; (try go_simp); (try with_reducible rfl))
        try simp only [Act.put, List.setIfInBounds_toArray, List.set_cons_zero, List.set_cons_succ]
        refine wpAnyH_take (i := 15) (oi := { dst := some 69, op := Op.convert 22 9 (Operand.tmp 68), type := 9, pos := "cursor.go:119", after := #[{ on := 14, ground := Ground.data }], guard := none }) (v := ?v13x16) rfl (by kernel_rfl) (by kernel_rfl) (by kernel_rfl) (fun _ _ _ h => h) (Or.inl ⟨by rfl, ?y13x16⟩) hn ?r13x16
        case y13x16 => (intro wS hS; rw [exec_conv (v := v') rfl rfl (HRD.out.new hS).str]; (try go_simp); (try with_reducible rfl))
        try simp only [Act.put, List.setIfInBounds_toArray, List.set_cons_zero, List.set_cons_succ]
        refine wpAnyH_take (i := 16) (oi := { dst := some 4, op := Op.assign (Operand.tmp 69), type := 9, pos := "cursor.go:119", after := #[{ on := 15, ground := Ground.data }, { on := 0, ground := Ground.phase }, { on := 1, ground := Ground.phase }, { on := 2, ground := Ground.phase }, { on := 3, ground := Ground.phase }, { on := 4, ground := Ground.phase }, { on := 5, ground := Ground.phase }, { on := 6, ground := Ground.phase }, { on := 7, ground := Ground.phase }, { on := 8, ground := Ground.phase }, { on := 9, ground := Ground.phase }, { on := 10, ground := Ground.phase }, { on := 11, ground := Ground.phase }, { on := 12, ground := Ground.phase }, { on := 13, ground := Ground.phase }, { on := 14, ground := Ground.phase }, { on := 15, ground := Ground.phase }], guard := none }) (v := ?v13x17) rfl (by kernel_rfl) (by kernel_rfl) (by kernel_rfl) (fun _ _ _ h => h) (Or.inl ⟨by rfl, ?y13x17⟩) hn ?r13x17
        case y13x17 => (intro wS hS; (try go_simp); (try with_reducible rfl))
        try simp only [Act.put, List.setIfInBounds_toArray, List.set_cons_zero, List.set_cons_succ]
        refine wpAnyH_done (by kernel_rfl) ?_ _
        refine NoPanic.normal ?_
        go_wp2_with fail
        go_ret
        refine Got.mk_ok HO1.out (U2.out.thenNew hn) ?_ (HH2.out.new hn)
        first | rfl | simp [strV]
      · rw [decide_eq_true (by omega : M < m)]
        have c0 := H1.out.c0
        have c1 := H1.out.c1
        by_cases hl : L < r
        · have HO1 : Hid (O = .up bs.length 1) := by show _ = _; rw [HO.out, if_neg hm, if_pos hl]
          have hl' : (L : Int) < (r : Int) := by omega
          go_wp2_with fail
          refine (giveUp_any H1.out bs.length 1).mono ?_
          rintro e w2 ⟨rfl, hc2, hu2⟩
          go_wp2_with fail
          exact ⟨rfl, Got.mk_up HO1.out (new_upd HW.out hu2 hC) rfl hc2⟩
        · have HO1 : Hid (O = .up (p + r) 2) := by show _ = _; rw [HO.out, if_neg hm, if_neg hl]
          have hl' : ¬ (L : Int) < (r : Int) := by omega
          go_wp2_with fail
          have hg := giveUp_any H1.out (p + r) 2
          rw [show (((p + r : Nat)) : Int) = (p : Int) + (r : Int) by omega] at hg
          refine hg.mono ?_
          rintro e w2 ⟨rfl, hc2, hu2⟩
          go_wp2_with fail
          exact ⟨rfl, Got.mk_up HO1.out (new_upd HW.out hu2 hC) rfl hc2⟩
end Go.Proofs.Ytkfohickmdkplaa
