/-
  The laws of spans: SpanDigits.
-/
import Derived.Test.YtlmimlnflcfccaaSpnA
import Derived.Test.YtlmimlnflcfccaaOpen
import Derived.Test.YtlmimlnflcfccaaDig
import Derived.Test.YtlmimlnflcfccaaLebP
import Derived.Test.YtlmimlnflcfccaaLebR
namespace Go.Proofs.Ytlmimlnflcfccaa
open Go.RowKit Go.Proofs.Own Go.Proofs.Span Go.Proofs.Leb
set_option maxRecDepth 100000
set_option maxHeartbeats 3200000

theorem fitsOne (v : Value) (a b low s l : Nat) (w : World) (h : RdP w v [(a, b)]) (hs : s ≤ 63) (hl : l ≤ 9) (hlow : low < 2 ^ s) (ha : a < 18446744073709551616) (hb : b < 18446744073709551616) :
    Calls Try.prog 43 #[v, .int .u64 low, .int .i64 s, .int .i64 l, .int .i64 32] w fun e w' => e = .returned (.bool (Span.look a b low s l 32)) ∧ New w w' := by
  have hc := Fits_any v [(a, b)] low s l 32 w h (by simp) hs hl (by decide) hlow (by
    intro i hi
    match i, hi with
    | 0, _ => exact ⟨ha, hb⟩)
  have e : ([(a, b)].any fun x : Nat × Nat => Span.look x.1 x.2 low s l 32) = Span.look a b low s l 32 := by simp
  rw [e] at hc
  exact hc

theorem spanDigits_walk (v low wide more : Nat) (w : World) (v1 : v < 4294967296) (l1 : low < 4294967296) (w1 : wide < 4294967296) (m1 : more < 256) :
    Calls Try.prog 11 #[.agg #[.int .u32 v, .int .u32 low, .int .u32 wide], .int .u8 more] w (True' w) := by
  obtain ⟨m, hm, hm2⟩ : ∃ m : Nat, (more : Int) % 5 = m ∧ m < 5 := ⟨more % 5, by omega, by omega⟩
  obtain ⟨d, hd, hd2⟩ : ∃ d : Nat, (wide : Int) % 300 = d ∧ d < 300 := ⟨wide % 300, by omega, by omega⟩
  obtain ⟨w1', hw1⟩ : ∃ w1, w.alloc (.cells #[.int .u32 v, .int .u32 low, .int .u32 wide] 71) = w1 := ⟨_, rfl⟩
  have h01 : Hid (New w w1') := by show New _ _; rw [← hw1]; exact (Upd.refl _ _).alloc _
  have K0 : Hid (w1'.cell? ⟨w.heap.size, 0, none⟩ = some (.int .u32 v)) := by show _ = _; rw [← hw1]; simp
  have K1 : Hid (w1'.cell? ⟨w.heap.size, 1, none⟩ = some (.int .u32 low)) := by show _ = _; rw [← hw1]; simp
  have K2 : Hid (w1'.cell? ⟨w.heap.size, 2, none⟩ = some (.int .u32 wide)) := by show _ = _; rw [← hw1]; simp
  have HW1 := hid hw1
  clear hw1
  go_enter Try.func11, Try.ntmps11
  go_wp2_with fail
  rw [HW1.out]
  have hn : New w1' w1'.drew := (Upd.refl _ _).drew
  refine wp_region_noPanic ?_
  refine wp_region_held_drew (S := (New w1')) (by kernel_rfl) (by first | exact hn | exact (Upd.refl _ _).drew | exact Upd.drew (by assumption)) (fun hn => ?_)
  refine wpAnyH_take (i := 0) (oi := { dst := some 16, op := Op.indexAddr 71 (Operand.tmp 2) (Operand.const (Value.int IntKind.i64 0)), type := 0, pos := "outright.go:11", after := #[], guard := none }) (v := ?v4x1) rfl (by kernel_rfl) (by kernel_rfl) (by kernel_rfl) (fun _ _ _ h => h) (Or.inl ⟨by rfl, ?y4x1⟩) hn ?r4x1
  case y4x1 => (intro wS hS; (try go_simp); (try with_reducible rfl))
  try simp only [Act.put, List.setIfInBounds_toArray, List.set_cons_zero, List.set_cons_succ]
  refine wpAnyH_take (i := 1) (oi := { dst := some 17, op := Op.load 70 (Operand.tmp 16), type := 70, pos := "outright.go:11", after := #[{ on := 0, ground := Ground.data }], guard := none }) (v := ?v4x2) rfl (by kernel_rfl) (by kernel_rfl) (by kernel_rfl) (fun _ _ _ h => h) (Or.inl ⟨by rfl, ?y4x2⟩) hn ?r4x2
  case y4x2 => (intro wS hS; have c := hS.cell K0.out (fun h => h); (try go_simp); (try with_reducible rfl))
  try simp only [Act.put, List.setIfInBounds_toArray, List.set_cons_zero, List.set_cons_succ]
  refine wpAnyH_take (i := 2) (oi := { dst := some 18, op := Op.indexAddr 71 (Operand.tmp 2) (Operand.const (Value.int IntKind.i64 1)), type := 0, pos := "outright.go:11", after := #[{ on := 6, ground := Ground.gcOnly Departure.lateStores }], guard := none }) (v := ?v4x3) rfl (by kernel_rfl) (by kernel_rfl) (by kernel_rfl) (fun _ _ _ h => h) (Or.inl ⟨by rfl, ?y4x3⟩) hn ?r4x3
  case y4x3 => (intro wS hS; (try go_simp); (try with_reducible rfl))
  try simp only [Act.put, List.setIfInBounds_toArray, List.set_cons_zero, List.set_cons_succ]
  refine wpAnyH_take (i := 3) (oi := { dst := some 19, op := Op.load 70 (Operand.tmp 18), type := 70, pos := "outright.go:11", after := #[{ on := 2, ground := Ground.data }, { on := 6, ground := Ground.gcOnly Departure.lateStores }], guard := none }) (v := ?v4x4) rfl (by kernel_rfl) (by kernel_rfl) (by kernel_rfl) (fun _ _ _ h => h) (Or.inl ⟨by rfl, ?y4x4⟩) hn ?r4x4
  case y4x4 => (intro wS hS; have c := hS.cell K1.out (fun h => h); (try go_simp); (try with_reducible rfl))
  try simp only [Act.put, List.setIfInBounds_toArray, List.set_cons_zero, List.set_cons_succ]
  refine wpAnyH_take (i := 4) (oi := { dst := some 20, op := Op.indexAddr 71 (Operand.tmp 2) (Operand.const (Value.int IntKind.i64 2)), type := 0, pos := "outright.go:11", after := #[{ on := 7, ground := Ground.gcOnly Departure.lateStores }], guard := none }) (v := ?v4x5) rfl (by kernel_rfl) (by kernel_rfl) (by kernel_rfl) (fun _ _ _ h => h) (Or.inl ⟨by rfl, ?y4x5⟩) hn ?r4x5
  case y4x5 => (intro wS hS; (try go_simp); (try with_reducible rfl))
  try simp only [Act.put, List.setIfInBounds_toArray, List.set_cons_zero, List.set_cons_succ]
  refine wpAnyH_take (i := 5) (oi := { dst := some 21, op := Op.load 70 (Operand.tmp 20), type := 70, pos := "outright.go:11", after := #[{ on := 4, ground := Ground.data }, { on := 7, ground := Ground.gcOnly Departure.lateStores }], guard := none }) (v := ?v4x6) rfl (by kernel_rfl) (by kernel_rfl) (by kernel_rfl) (fun _ _ _ h => h) (Or.inl ⟨by rfl, ?y4x6⟩) hn ?r4x6
  case y4x6 => (intro wS hS; have c := hS.cell K2.out (fun h => h); (try go_simp); (try with_reducible rfl))
  try simp only [Act.put, List.setIfInBounds_toArray, List.set_cons_zero, List.set_cons_succ]
  refine wpAnyH_take (i := 6) (oi := { dst := some 5, op := Op.assign (Operand.tmp 17), type := 70, pos := "outright.go:11", after := #[{ on := 1, ground := Ground.data }, { on := 0, ground := Ground.phase }, { on := 1, ground := Ground.phase }, { on := 2, ground := Ground.textOnly Departure.lateStores }, { on := 3, ground := Ground.textOnly Departure.lateStores }, { on := 4, ground := Ground.textOnly Departure.lateStores }, { on := 5, ground := Ground.textOnly Departure.lateStores }], guard := none }) (v := ?v4x7) rfl (by kernel_rfl) (by kernel_rfl) (by kernel_rfl) (fun _ _ _ h => h) (Or.inl ⟨by rfl, ?y4x7⟩) hn ?r4x7
  case y4x7 => (intro wS hS; (try go_simp); (try with_reducible rfl))
  try simp only [Act.put, List.setIfInBounds_toArray, List.set_cons_zero, List.set_cons_succ]
  refine wpAnyH_take (i := 7) (oi := { dst := some 6, op := Op.assign (Operand.tmp 19), type := 70, pos := "outright.go:11", after := #[{ on := 3, ground := Ground.data }, { on := 6, ground := Ground.chain }, { on := 0, ground := Ground.phase }, { on := 1, ground := Ground.phase }, { on := 2, ground := Ground.phase }, { on := 3, ground := Ground.phase }, { on := 4, ground := Ground.textOnly Departure.lateStores }, { on := 5, ground := Ground.textOnly Departure.lateStores }, { on := 6, ground := Ground.phase }], guard := none }) (v := ?v4x8) rfl (by kernel_rfl) (by kernel_rfl) (by kernel_rfl) (fun _ _ _ h => h) (Or.inl ⟨by rfl, ?y4x8⟩) hn ?r4x8
  case y4x8 => (intro wS hS; (try go_simp); (try with_reducible rfl))
  try simp only [Act.put, List.setIfInBounds_toArray, List.set_cons_zero, List.set_cons_succ]
  refine wpAnyH_take (i := 8) (oi := { dst := some 7, op := Op.assign (Operand.tmp 21), type := 70, pos := "outright.go:11", after := #[{ on := 5, ground := Ground.data }, { on := 7, ground := Ground.chain }, { on := 0, ground := Ground.phase }, { on := 1, ground := Ground.phase }, { on := 2, ground := Ground.phase }, { on := 3, ground := Ground.phase }, { on := 4, ground := Ground.phase }, { on := 5, ground := Ground.phase }, { on := 6, ground := Ground.phase }, { on := 7, ground := Ground.phase }], guard := none }) (v := ?v4x9) rfl (by kernel_rfl) (by kernel_rfl) (by kernel_rfl) (fun _ _ _ h => h) (Or.inl ⟨by rfl, ?y4x9⟩) hn ?r4x9
  case y4x9 => (intro wS hS; (try go_simp); (try with_reducible rfl))
  try simp only [Act.put, List.setIfInBounds_toArray, List.set_cons_zero, List.set_cons_succ]
  refine wpAnyH_done (by kernel_rfl) ?_ _
  refine NoPanic.normal ?_
  generalize w1'.drew = w2 at *
  have HN2 := hid (New.trans h01.out hn)
  clear K0 K1 K2 HW1 hn h01
  go_wp2_with fail
  refine (refPutU_any _ [] v m w2 (by omega) (by omega) (by decide) (Rd.nil w2)).mono ?_
  rintro e w3 ⟨v3, rfl, hb3, hn3, hf3⟩
  rw [List.nil_append] at hb3
  obtain ⟨bs, hbs⟩ : ∃ bs, encU v m = bs := ⟨_, rfl⟩
  rw [hbs] at hb3
  have HBS := hid hbs
  have HN3 := hid hn3
  have HR3 := hid hb3.rd
  obtain ⟨a3, c3, rfl⟩ := hb3.rd.shape
  clear hb3 hf3 hn3 hbs
  go_upto_if 30 with fail
  go_cut [8] (fun p wx => ∃ (bs : List UInt8) (m : Nat), bs = encU v m ∧ bs.length ≤ 5 ∧ Rd wx p bs ∧ New w2 wx)
  case first =>
    by_cases h5 : 5 < bs.length
    · go_wp2_with fail
      refine (refPutU_any _ [] v 0 w3 (by omega) (by omega) (by decide) (Rd.nil w3)).mono ?_
      rintro e w4 ⟨v4, rfl, hb4, hn4, hf4⟩
      rw [List.nil_append] at hb4
      go_wp2_with fail
      go_meet
      exact ⟨encU v 0, 0, rfl, encU_len_le 5 v (by decide) (by have : (128 : Nat) ^ 5 = 34359738368 := by decide
                                                               omega), hb4.rd, New.trans HN3.out hn4⟩
    · go_wp2_with fail
      go_meet
      exact ⟨bs, m, HBS.out.symm, by omega, HR3.out, HN3.out⟩
  case rest =>
    clear HR3 HBS HN3 bs hm hm2 m
    obtain ⟨bs, m, hbs, h5, hr, hn⟩ := hcut
    obtain ⟨w4, rfl⟩ : ∃ w4, w4 = wc := ⟨_, rfl⟩
    obtain ⟨a4, c4, rfl⟩ := hr.shape
    have HBS := hid hbs
    have HR := hid hr
    have HN4 := hid (New.trans HN2.out hn)
    clear hbs hr hn
    obtain ⟨hi', hhi, hh2⟩ : ∃ hi' : Nat, min (4294967295 : Int) (low + d) = hi' ∧ hi' < 4294967296 := ⟨min 4294967295 (low + d), by omega, by omega⟩
    have hhi' : (if (low : Int) + d < 4294967295 then (low : Int) + d else 4294967295) = hi' := by rw [← hhi]; split <;> omega
    go_upto_region 6 with fail
    have hz0 : (w4.alloc (.cells #[.int .u64 low, .int .u64 hi'] 58)).cell? ⟨w4.heap.size, 0, none⟩ = some (.int .u64 low) := by simp
    have hz1 : (w4.alloc (.cells #[.int .u64 low, .int .u64 hi'] 58)).cell? ⟨w4.heap.size, 1, none⟩ = some (.int .u64 hi') := by simp
    have hr5 := HR.out.new ((Upd.refl (fun _ => False) w4).alloc (.cells #[.int .u64 low, .int .u64 hi'] 58))
    have hn5 := New.trans HN4.out ((Upd.refl (fun _ => False) w4).alloc (.cells #[.int .u64 low, .int .u64 hi'] 58))
    generalize w4.alloc (.cells #[.int .u64 low, .int .u64 hi'] 58) = w5 at *
    generalize w4.heap.size = g9 at *
    have HR5 := hid hr5
    have HN5 := hid hn5
    have HZ0 := hid hz0
    have HZ1 := hid hz1
    clear hr5 hn5 HR HN4 hhi hhi' hd hd2
    go_cut [10] (fun c wx => c = .bool (decide (low ≤ v) && decide (v ≤ hi')) ∧ w5 = wx)
    case first =>
      by_cases i1 : low ≤ v
      · by_cases i2 : v ≤ hi'
        · go_wp2_with fail
          go_meet
          exact ⟨by rw [decide_eq_true i1, decide_eq_true i2]; rfl, rfl⟩
        · go_wp2_with fail
          go_meet
          exact ⟨by rw [decide_eq_true i1, decide_eq_false i2]; first | rfl | (congr 1; exact decide_eq_false (by omega)), rfl⟩
      · go_wp2_with fail
        go_meet
        exact ⟨by rw [decide_eq_false i1]; rfl, rfl⟩
    case rest =>
      obtain ⟨rfl, rfl⟩ := hcut
      clear hz0 hz1
      obtain ⟨c, hc⟩ : ∃ c, (decide (low ≤ v) && decide (v ≤ hi')) = c := ⟨_, rfl⟩
      rw [hc]
      have HIN : Hid (c = true ↔ low ≤ v ∧ v ≤ hi') := by show _ ↔ _; rw [← hc]; simp
      clear hc
      have hnz : ∀ (h : 0 = bs.length), False := fun h => by have := encU_ne v m; rw [← HBS.out] at this; omega
      have HNZ := hid hnz
      clear hnz
      go_wp2_with fail
      go_loopg [4, 11, 12, 13, 14, 15] bs.length (fun k _ p q _ _ _ wr => ∃ i : Nat, k = bs.length - i ∧ p = .int .u64 (val (bs.take i)) ∧ q = .int .i64 i ∧ i ≤ bs.length ∧ New w5 wr ∧ (i = bs.length → low ≤ v ∧ v ≤ hi'))
      case atStart => exact ⟨0, by simp, by simp [val], rfl, Nat.zero_le _, Upd.refl _ _, fun h => (HNZ.out h).elim⟩
      case round =>
        obtain ⟨i, rfl, rfl, rfl, hi, hw, hend⟩ := hrel
        obtain ⟨wo, rfl⟩ : ∃ wo : World, wo = wr := ⟨_, rfl⟩
        have HW := hid hw
        have HEND := hid hend
        clear hend hw
        by_cases hlt : i < bs.length
        · obtain ⟨_, _, e, _, _, hcell⟩ := HR5.out
          obtain ⟨bl, of, rfl, hcl⟩ := hcell (by intro h; subst h; simp at hlt)
          cases e
          have hc0 := HW.out.cell (hcl i hlt) (fun h => h)
          have f := Dig.facts HBS.out h5 v1 i hlt
          have FI := hid (Dig.fits (lo := low) (hi := hi') HBS.out h5 v1 i hlt)
          have FN := hid (Dig.none (lo := low) (hi := hi') HBS.out h5 v1 hh2 i hlt)
          have FL := hid (fun h => Dig.inside (lo := low) (hi := hi') HBS.out h5 v1 i h)
          have hss := Dig.sum_succ bs i hlt
          have hle := Dig.left_eq hlt
          have hsum : Dig.sum bs i = val (bs.take (i + 1)) := rfl
          have hsh : Dig.shift i = min (7 * i + 7) 32 := rfl
          have HLI := hid (Dig.last_iff HBS.out i hlt)
          clear hcell hcl
          unfold cb at hc0
          have hn256 := u8_lt bs[i]
          generalize bs[i].toNat = n at *
          generalize Dig.sum bs i = s at *
          generalize Dig.shift i = sh at *
          generalize Dig.left bs i = lf at *
          generalize hy : val (bs.take i) = y at *
          have HSS := hid hsum
          obtain ⟨f1, f2, f3, f4, f5⟩ := f
          have HF4 := hid f4
          have HF5 := hid f5
          have HF1 := hid f1
          have sle : s ≤ v := by rw [← f2]; exact Nat.mod_le _ _
          clear f1 f2 f3 f4 f5 hsum hy
          obtain ⟨P, hP⟩ : ∃ P, 128 ^ i = P := ⟨_, rfl⟩
          have p1 : (2 : Int) ^ (7 * i) = P := by have := congrArg (fun t : Nat => (t : Int)) ((Dig.pow7 i).trans hP); simpa using this
          obtain ⟨t, ht⟩ : ∃ t, P * (n % 128) = t := ⟨_, rfl⟩
          have p2 : ((n : Int) % 128) * P = t := by rw [← ht, Int.mul_comm]; simp
          rw [hP, ht] at hss
          have p3 : (y : Int) + t = s := by omega
          have hi4 : i ≤ 4 := by omega
          have p4 : min (7 * (i : Int) + 7) 32 = sh := by omega
          have hsh2 : sh ≤ 32 := by omega
          have tle : t ≤ s := by omega
          have HLF := hid hle
          clear hle hP ht hss hsh
          have hlf4 : lf ≤ 4 := by have := HLF.out; split at this <;> omega
          have hz0 := HW.out.cell HZ0.out (fun h => h)
          have hz1 := HW.out.cell HZ1.out (fun h => h)
          obtain ⟨b, hb⟩ : ∃ b, Span.look low hi' s sh lf 32 = b := ⟨_, rfl⟩
          have HFC := hid (fun v w h => fitsOne v low hi' s sh lf w h (by omega) (by omega) HF1.out (by omega) (by omega))
          rw [hb] at HFC FI FN FL
          clear hb
          by_cases hlast : n < 128
          · have l0 : lf = 0 := by have := HLF.out; rw [if_pos hlast] at this; exact this
            subst l0
            have HFC : Hid (∀ (v : Value) (w : World), RdP w v [(low, hi')] → Calls Try.prog 43 #[v, .int .u64 s, .int .i64 sh, .int .i64 0, .int .i64 32] w fun e w' => e = .returned (.bool b) ∧ New w w') := HFC
            clear hlf4
            go_wp2_with fail
            with_reducible refine (HFC.out _ _ (RdP.one _ low hi' _)).mono ?_
            rintro e wf ⟨rfl, hnf⟩
            have hnw := hid (New.trans HW.out (New.trans ((Upd.refl _ _).alloc _) hnf))
            cases b with
            | true =>
              clear hnf
              cases c
              all_goals
                go_wp2_with fail
                go_roundg (bs.length - (i + 1))
                case measure => omega
                case rel => exact ⟨i + 1, rfl, by rw [← HSS.out], by go_num, by omega, hnw.out, fun h => FL.out h trivial⟩
            | false =>
              have hcf : c = false := by
                cases c with
                | false => rfl
                | true => have := HIN.out.mp rfl; exact absurd (FI.out this.1 this.2) (by decide)
              subst hcf
              have hz2 := hnw.out.cell HZ0.out (fun h => h)
              have hz3 := hnw.out.cell HZ1.out (fun h => h)
              have FN2 := hid (FN.out rfl)
              obtain ⟨Q, hQ⟩ : ∃ Q, 2 ^ sh = Q := ⟨_, rfl⟩
              rw [hQ] at FN2
              have Q0 : 0 < Q := by rw [← hQ]; exact Nat.pow_pos (by decide)
              have Q1 : Q ≤ 4294967296 := by rw [← hQ]; exact Nat.le_trans (Nat.pow_le_pow_right (by decide) hsh2) (by decide)
              have p6 : (2 : Int) ^ sh = Q := by have := congrArg (fun t : Nat => (t : Int)) hQ; simpa using this
              clear hQ hz0 hz1 hnf
              go_wp2_with fail
              go_loopg [4, 15] (hi' + 1 - low) (fun k _ p wr => ∃ u : Nat, k = hi' + 1 - u ∧ p = .int .u64 u ∧ low ≤ u ∧ (u ≤ hi' + 1 ∨ u = low) ∧ wf = wr)
              case atStart => exact ⟨low, rfl, rfl, Nat.le_refl _, .inr rfl, rfl⟩
              case round =>
                obtain ⟨u, rfl, rfl, u1, u2, rfl⟩ := hrel
                by_cases hu : u ≤ hi'
                · obtain ⟨g1, g2⟩ := FN2.out u u1 hu
                  have e1 : ((u : Int) == s) = false := beq_eq_false_iff_ne.mpr (by omega)
                  obtain ⟨r, hr⟩ : ∃ r, u % Q = r := ⟨_, rfl⟩
                  have hr2 : (u : Int) % Q = r := by rw [← hr]; simp
                  rw [hr] at g2
                  have G2 := hid g2
                  clear g1 g2 hr
                  go_wp2_with fail
                  go_roundg (hi' + 1 - (u + 1))
                  case measure => omega
                  case rel => exact ⟨u + 1, rfl, by go_num, by omega, by omega, rfl⟩
                · go_wp2_with fail
                  refine (awake2_any _).mono ?_
                  rintro e wz ⟨rfl, hnz⟩
                  go_wp2_with fail
                  go_ret
                  exact ⟨rfl, New.trans HN5.out (New.trans hnw.out hnz)⟩
          · have l0 : lf = 4 - i := by have := HLF.out; rw [if_neg hlast] at this; exact this
            have p5 : (4 : Int) - i = lf := by omega
            have hl1 : 0 < lf := by
              have h1 := HLI.out
              have : ¬ (i + 1 = bs.length) := fun h => hlast (h1.mpr h)
              omega
            clear l0
            go_wp2_with fail
            with_reducible refine (HFC.out _ _ (RdP.one _ low hi' _)).mono ?_
            rintro e wf ⟨rfl, hnf⟩
            have hnw := hid (New.trans HW.out (New.trans ((Upd.refl _ _).alloc _) hnf))
            cases b with
            | true =>
              clear hnf
              cases c
              all_goals
                go_wp2_with fail
                go_roundg (bs.length - (i + 1))
                case measure => omega
                case rel => exact ⟨i + 1, rfl, by rw [← HSS.out], by go_num, by omega, hnw.out, fun h => FL.out h trivial⟩
            | false =>
              have hcf : c = false := by
                cases c with
                | false => rfl
                | true => have := HIN.out.mp rfl; exact absurd (FI.out this.1 this.2) (by decide)
              subst hcf
              have hz2 := hnw.out.cell HZ0.out (fun h => h)
              have hz3 := hnw.out.cell HZ1.out (fun h => h)
              have FN2 := hid (FN.out rfl)
              obtain ⟨Q, hQ⟩ : ∃ Q, 2 ^ sh = Q := ⟨_, rfl⟩
              rw [hQ] at FN2
              have Q0 : 0 < Q := by rw [← hQ]; exact Nat.pow_pos (by decide)
              have Q1 : Q ≤ 4294967296 := by rw [← hQ]; exact Nat.le_trans (Nat.pow_le_pow_right (by decide) hsh2) (by decide)
              have p6 : (2 : Int) ^ sh = Q := by have := congrArg (fun t : Nat => (t : Int)) hQ; simpa using this
              clear hQ hz0 hz1 hnf
              go_wp2_with fail
              go_loopg [4, 15] (hi' + 1 - low) (fun k _ p wr => ∃ u : Nat, k = hi' + 1 - u ∧ p = .int .u64 u ∧ low ≤ u ∧ (u ≤ hi' + 1 ∨ u = low) ∧ wf = wr)
              case atStart => exact ⟨low, rfl, rfl, Nat.le_refl _, .inr rfl, rfl⟩
              case round =>
                obtain ⟨u, rfl, rfl, u1, u2, rfl⟩ := hrel
                by_cases hu : u ≤ hi'
                · obtain ⟨g1, g2⟩ := FN2.out u u1 hu
                  have e1 : ((u : Int) == s) = false := beq_eq_false_iff_ne.mpr (by omega)
                  obtain ⟨r, hr⟩ : ∃ r, u % Q = r := ⟨_, rfl⟩
                  have hr2 : (u : Int) % Q = r := by rw [← hr]; simp
                  rw [hr] at g2
                  have G2 := hid g2
                  clear g1 g2 hr
                  have e2 : ((r : Int) == s) = false := beq_eq_false_iff_ne.mpr (by have := G2.out; omega)
                  go_wp2_with fail
                  go_roundg (hi' + 1 - (u + 1))
                  case measure => omega
                  case rel => exact ⟨u + 1, rfl, by go_num, by omega, by omega, rfl⟩
                · go_wp2_with fail
                  refine (awake2_any _).mono ?_
                  rintro e wz ⟨rfl, hnz⟩
                  go_wp2_with fail
                  go_ret
                  exact ⟨rfl, New.trans HN5.out (New.trans hnw.out hnz)⟩
        · obtain rfl : bs.length = i := by omega
          obtain ⟨h1, h2⟩ := HEND.out rfl
          obtain rfl : c = true := HIN.out.mpr ⟨h1, h2⟩
          obtain ⟨L, hL⟩ : ∃ L, (encU v 0).length = L := ⟨_, rfl⟩
          have hLle : L ≤ bs.length := by rw [HBS.out, encU_len, hL]; omega
          have HSZ := hid (fun w => sizeU_any v w (by omega))
          rw [hL] at HSZ
          clear hL h1 h2
          go_wp2_with fail
          refine (HSZ.out _).mono ?_
          rintro e wa ⟨rfl, rfl⟩
          go_wp2_with fail
          refine (awake2_any _).mono ?_
          rintro e wz ⟨rfl, hnz⟩
          go_wp2_with fail
          go_ret
          exact ⟨rfl, New.trans HN5.out (New.trans HW.out hnz)⟩
end Go.Proofs.Ytlmimlnflcfccaa
