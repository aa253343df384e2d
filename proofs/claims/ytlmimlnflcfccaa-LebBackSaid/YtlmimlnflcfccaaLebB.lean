/-
  LebBack.
-/
import Derived.Test.YtlmimlnflcfccaaLebS
namespace Go.Proofs.Ytlmimlnflcfccaa
open Go.RowKit Go.Proofs.Leb Go.Proofs.Own
set_option maxRecDepth 100000
set_option maxHeartbeats 2000000

/-- the first bytes of what can be read -/
theorem Rd.take {w : World} {a : Option Addr} {n c : Nat} {bs : List UInt8} (h : Rd w (.slice a n c) bs) (i : Nat) (hi : i ≤ n) : Rd w (.slice a i c) (bs.take i) := by
  obtain ⟨a', c', e, h1, h2, h3⟩ := h
  cases e
  have hl : (bs.take i).length = i := by rw [List.length_take]; omega
  refine ⟨a, c, by rw [hl], by omega, h2, fun hne => ?_⟩
  have hb : bs ≠ [] := fun e => by subst e; simp at hne
  obtain ⟨b, o, rfl, hc⟩ := h3 hb
  refine ⟨b, o, rfl, fun j hj => ?_⟩
  rw [hl] at hj
  rw [List.getElem_take]
  exact hc j (by omega)

theorem clamp64 : clamp 64 = 64 := by decide
theorem U_back (v : Value) (x k : Nat) (L : List UInt8) (b : UInt8) (w : World) (h : Rd w v (L ++ [b])) (hL : L = encU x k) (hx : x < 18446744073709551616) (hl : L.length ≤ 10) :
    Calls Try.prog 23 #[v, .int .i64 64] w fun e w' => e = .returned (.tuple #[.int .u64 x, .int .i64 L.length, .int .i64 0]) ∧ w = w' := by
  have hc := U_any v (L ++ [b]) 64 w h (by rw [List.length_append]; simp; omega) (by decide) (by decide)
  have hb := back_decU x k [b] (Nat.lt_of_lt_of_le hx (by decide)) (by rw [← hL]; exact hl)
  rw [← hL] at hb
  rw [clamp64] at hc
  have e1 : uV (L ++ [b]) 64 = x := congrArg (fun t => t.1) hb
  have e2 : dN okU (L ++ [b]) 64 = L.length := congrArg (fun t => t.2.1) hb
  have e3 : dE okU (L ++ [b]) 64 = 0 := congrArg (fun t => t.2.2) hb
  rw [e1, e2, e3] at hc
  exact hc
theorem S_back (v : Value) (y : Int) (k : Nat) (L : List UInt8) (b : UInt8) (w : World) (h : Rd w v (L ++ [b])) (hL : L = encS y k) (h1 : -9223372036854775808 ≤ y) (h2 : y ≤ 9223372036854775807) (hl : L.length ≤ 10) :
    Calls Try.prog 26 #[v, .int .i64 64] w fun e w' => e = .returned (.tuple #[.int .i64 y, .int .i64 L.length, .int .i64 0]) ∧ w = w' := by
  have hc := S_any v (L ++ [b]) 64 w h (by rw [List.length_append]; simp; omega) (by decide) (by decide)
  have hb := back_decS y k [b] h1 (by omega) (by rw [← hL]; exact hl)
  rw [← hL] at hb
  rw [clamp64] at hc
  have e1 : sV (L ++ [b]) 64 = y := congrArg (fun t => t.1) hb
  have e2 : dN okS (L ++ [b]) 64 = L.length := congrArg (fun t => t.2.1) hb
  have e3 : dE okS (L ++ [b]) 64 = 0 := congrArg (fun t => t.2.2) hb
  rw [e1, e2, e3] at hc
  exact hc
/-- cut anywhere, bytes lack -/
theorem U_cut (v : Value) (L : List UInt8) (i : Nat) (w : World) (h : Rd w v (L.take i)) (hi : i < L.length) (hs : stop L + 1 = L.length) (hl : L.length ≤ 10) :
    Calls Try.prog 23 #[v, .int .i64 64] w fun e w' => e = .returned (.tuple #[.int .u64 (uV (L.take i) 64), .int .i64 i, .int .i64 1]) ∧ w = w' := by
  have hc := U_any v (L.take i) 64 w h (by rw [List.length_take]; omega) (by decide) (by decide)
  have hb : scan okU (L.take i) 64 = (i, 1) := scan_cut i (by omega) (by show i < 10; omega)
  rw [clamp64] at hc
  have e2 : dN okU (L.take i) 64 = i := congrArg (fun t => t.1) hb
  have e3 : dE okU (L.take i) 64 = 1 := congrArg (fun t => t.2) hb
  rw [e2, e3] at hc
  exact hc
theorem S_cut (v : Value) (L : List UInt8) (i : Nat) (w : World) (h : Rd w v (L.take i)) (hi : i < L.length) (hs : stop L + 1 = L.length) (hl : L.length ≤ 10) :
    Calls Try.prog 26 #[v, .int .i64 64] w fun e w' => e = .returned (.tuple #[.int .i64 (sV (L.take i) 64), .int .i64 i, .int .i64 1]) ∧ w = w' := by
  have hc := S_any v (L.take i) 64 w h (by rw [List.length_take]; omega) (by decide) (by decide)
  have hb : scan okS (L.take i) 64 = (i, 1) := scan_cut i (by omega) (by show i < 10; omega)
  rw [clamp64] at hc
  have e2 : dN okS (L.take i) 64 = i := congrArg (fun t => t.1) hb
  have e3 : dE okS (L.take i) 64 = 1 := congrArg (fun t => t.2) hb
  rw [e2, e3] at hc
  exact hc

theorem Rd.some' {w : World} {a : Option Addr} {n c : Nat} {bs : List UInt8} (h : Rd w (.slice a n c) bs) (hn : 0 < bs.length) : n ≤ c ∧ ∃ b o, a = some ⟨b, o, none⟩ := by
  obtain ⟨a', c', e, h1, h2, h3⟩ := h
  cases e
  obtain ⟨b, o, rfl, -⟩ := h3 (List.length_pos_iff.mp hn)
  exact ⟨h1, b, o, rfl⟩

theorem neither (a b c d : Nat) (h1 : (a : Int) ≤ b) (h2 : (c : Int) ≤ d) : (decide (b < a) || decide (d < c)) = false := by
  rw [decide_eq_false (by omega), decide_eq_false (by omega)]; rfl
theorem lebBack_walk (x p q : Nat) (w : World) (hx : x < 18446744073709551616) (hp : p < 256) (hq : q < 256) :
    Calls Try.prog 5 #[.int .u64 x, .int .u8 p, .int .u8 q] w (True' w) := by
  obtain ⟨y, hy, hy1, hy2⟩ : ∃ y, wrap64 (x : Int) = y ∧ -9223372036854775808 ≤ y ∧ y ≤ 9223372036854775807 := ⟨_, rfl, by unfold wrap64; omega, by unfold wrap64; omega⟩
  obtain ⟨m, hm⟩ : ∃ m : Nat, (p : Int) % 10 = m := ⟨p % 10, by omega⟩
  have m1 : m ≤ 9 := by omega
  go_enter Try.func5, Try.ntmps5
  go_wp2_with fail
  refine (refPutU_any _ [] x m w hx (by omega) (by decide) (Rd.nil w)).mono ?_
  rintro e w1 ⟨v1, rfl, hb1, hn1, hf1⟩
  rw [List.nil_append] at hb1
  go_wp2_with fail
  refine (refPutS_any _ [] y m w1 hy1 hy2 (by omega) (by decide) (Rd.nil w1)).mono ?_
  rintro e w2 ⟨v2, rfl, hb2, hn2, hf2⟩
  rw [List.nil_append] at hb2
  have HB1 := hid (hb1.new hn2)
  have HB2 := hid hb2
  have HN := hid (New.trans hn1 hn2)
  clear hb1 hb2 hn1 hn2 hf1 hf2
  obtain ⟨a1, c1, rfl⟩ := HB1.out.rd.shape
  obtain ⟨a2, c2, rfl⟩ := HB2.out.rd.shape
  have HU : Hid ((encU x 0).length ≤ 10) := encU_len_le 10 x (by decide) (Nat.lt_trans hx (by decide))
  have HS : Hid ((encS y 0).length ≤ 10) := encS_len_le 10 y (by decide) (by omega) (by omega)
  go_upto_if 36 with fail
  go_cut [8] (fun u wx => ∃ (L : List UInt8) (a : Option Addr) (c k : Nat), u = .slice a L.length c ∧ L = encU x k ∧ L.length ≤ 10 ∧ Bytes wx (.slice a L.length c) L ∧ New w wx ∧ Bytes wx (.slice a2 (encS y m).length c2) (encS y m))
  case first =>
    by_cases hl : (10 : Int) < (encU x m).length
    · go_wp2_with fail
      refine (refPutU_any _ [] x 0 w2 hx (by omega) (by decide) (Rd.nil w2)).mono ?_
      rintro e w3 ⟨v3, rfl, hb3, hn3, hf3⟩
      rw [List.nil_append] at hb3
      obtain ⟨a3, c3, rfl⟩ := hb3.rd.shape
      have H3 := hid hb3
      have N3 := hid hn3
      clear hb3 hn3 hf3
      go_wp2_with fail
      go_meet
      exact ⟨encU x 0, a3, c3, 0, rfl, rfl, HU.out, H3.out, New.trans HN.out N3.out, HB2.out.new N3.out⟩
    · have hl' := hid hl
      go_wp2_with fail
      go_meet
      exact ⟨encU x m, a1, c1, m, rfl, rfl, (by have := hl'.out; omega), HB1.out, HN.out, HB2.out⟩
  case rest =>
    obtain ⟨L1, b1, d1, k1, rfl, hL1, hl1, hB1, hN, hB2⟩ := hcut
    have HL1 := hid hL1
    have HC1 := hid hB1
    have HC2 := hid hB2
    have HN1 := hid hN
    clear hL1 hB1 hB2 hN HB1 HB2 HN
    go_upto_if 41 with fail
    go_cut [9] (fun u wx => ∃ (L : List UInt8) (a : Option Addr) (c k : Nat), u = .slice a L.length c ∧ L = encS y k ∧ L.length ≤ 10 ∧ Bytes wx (.slice a L.length c) L ∧ New w wx ∧ Bytes wx (.slice b1 L1.length d1) L1)
    case first =>
      by_cases hl : (10 : Int) < (encS y m).length
      · go_wp2_with fail
        refine (refPutS_any _ [] y 0 wc hy1 hy2 (by omega) (by decide) (Rd.nil wc)).mono ?_
        rintro e w3 ⟨v3, rfl, hb3, hn3, hf3⟩
        rw [List.nil_append] at hb3
        obtain ⟨a3, c3, rfl⟩ := hb3.rd.shape
        have H3 := hid hb3
        have N3 := hid hn3
        clear hb3 hn3 hf3
        go_wp2_with fail
        go_meet
        exact ⟨encS y 0, a3, c3, 0, rfl, rfl, HS.out, H3.out, New.trans HN1.out N3.out, HC1.out.new N3.out⟩
      · have hl' := hid hl
        go_wp2_with fail
        go_meet
        exact ⟨encS y m, a2, c2, m, rfl, rfl, (by have := hl'.out; omega), HC2.out, HN1.out, HC1.out⟩
    case rest =>
      obtain ⟨L2, b2, d2, k2, rfl, hL2, hl2, hB2, hN, hB1⟩ := hcut
      have HL2 := hid hL2
      have HB2 := hid hB2
      have HB1 := hid hB1
      have HN2 := hid hN
      clear hL2 hB1 hB2 hN HC1 HC2 HN1
      have hqb : (q : Int) = (UInt8.ofNat q).toNat := by rw [u8_of _ hq]
      have RU := hid (fun v w (h : Rd w v (L1 ++ [UInt8.ofNat q])) => U_back v x k1 L1 (UInt8.ofNat q) w h HL1.out hx hl1)
      have RS := hid (fun v w (h : Rd w v (L2 ++ [UInt8.ofNat q])) => S_back v y k2 L2 (UInt8.ofNat q) w h HL2.out hy1 hy2 hl2)
      have RQ := hid hqb
      clear hqb
      go_wp2_with (at_builtin; refine hold ?_)
      refine appR (.tmp 46) (.tmp 47) (Bytes.made wc) (HB1.out.rd.new ((Upd.refl _ _).alloc _)) (by simp only [List.length_nil]; omega) rfl rfl rfl rfl ?_
      intro v3 w3 hb3 ha3
      rw [List.nil_append] at hb3
      obtain ⟨hn3, hf3⟩ := Adds.made rfl ha3
      clear ha3
      go_wp2_with (at_builtin; refine hold ?_)
      refine appB (.tmp 48) (.tmp 50) (UInt8.ofNat q) hb3 RQ.out (by omega) rfl rfl rfl rfl ?_
      intro v4 w4 hb4 ha4
      have hn4 := Upd.newAdds hn3 hf3 ha4
      have HN4 := hid (New.trans HN2.out hn4)
      have HB14 := hid (HB1.out.new hn4)
      have HB24 := hid (HB2.out.new hn4)
      have HR4 := hid hb4.rd
      clear hn3 hf3 ha4 hn4 hb4 hb3 HB1 HB2 HN2
      go_wp2_with fail
      refine (RU.out _ _ HR4.out).mono ?_
      rintro e w' ⟨rfl, rfl⟩
      go_wp2_with (at_builtin; refine hold ?_)
      refine appR (.tmp 57) (.tmp 58) (Bytes.made w4) (HB24.out.rd.new ((Upd.refl _ _).alloc _)) (by simp only [List.length_nil]; omega) rfl rfl rfl rfl ?_
      intro v5 w5 hb5 ha5
      rw [List.nil_append] at hb5
      obtain ⟨hn5, hf5⟩ := Adds.made rfl ha5
      clear ha5
      go_wp2_with (at_builtin; refine hold ?_)
      refine appB (.tmp 59) (.tmp 61) (UInt8.ofNat q) hb5 RQ.out (by omega) rfl rfl rfl rfl ?_
      intro v6 w6 hb6 ha6
      have hn6 := Upd.newAdds hn5 hf5 ha6
      have HN6 := hid (New.trans HN4.out hn6)
      have HB16 := hid (HB14.out.new hn6)
      have HB26 := hid (HB24.out.new hn6)
      have HR6 := hid hb6.rd
      clear hn5 hf5 ha6 hn6 hb6 hb5 HB14 HB24 HN4
      go_wp2_with fail
      refine (RS.out _ _ HR6.out).mono ?_
      rintro e w' ⟨rfl, rfl⟩
      have z1 : ¬ L1.length < (encU x 0).length := by rw [HL1.out]; have := encU_len x k1; omega
      have z2 : ¬ L2.length < (encS y 0).length := by rw [HL2.out]; have := encS_len _ y k2 (Nat.le_refl _); omega
      have QU := hid (sizeU_any x w6 hx)
      have QS := hid (sizeS_any y w6 hy1 hy2)
      go_upto_region 11 with (first | (go_at_call 20; refine QU.out.mono ?_; rintro e w' ⟨rfl, rfl⟩) | (go_at_call 21; refine QS.out.mono ?_; rintro e w' ⟨rfl, rfl⟩))
      clear z1 z2
      have GU := hid (fun i (hi : i < L1.length) => U_cut (.slice b1 i d1) L1 i w6 (Rd.take HB16.out.rd i (by omega)) hi (by rw [HL1.out]; have := encU_stop [] x k1; rwa [List.append_nil] at this) hl1)
      have GS := hid (fun i (hi : i < L2.length) => S_cut (.slice b2 i d2) L2 i w6 (Rd.take HB26.out.rd i (by omega)) hi (by rw [HL2.out]; have := encS_stop [] y k2; rwa [List.append_nil] at this) hl2)
      have p1 : 0 < L1.length := by rw [HL1.out]; exact encU_ne x k1
      have p2 : 0 < L2.length := by rw [HL2.out]; exact encS_ne y k2
      obtain ⟨f1, b, o, rfl⟩ := HB16.out.rd.some' p1
      obtain ⟨f2, b', o', rfl⟩ := HB26.out.rd.some' p2
      clear QU QS RU RS
      go_wp2_with fail
      go_loop [16] (fun c => ∃ i : Nat, c = .int .i64 i ∧ i ≤ L1.length) (fun c => L1.length - (intOf c).toNat)
      case atStart => exact ⟨0, rfl, Nat.zero_le _⟩
      case round =>
        obtain ⟨i, rfl, hi⟩ := hrel
        by_cases hlt : i < L1.length
        · have HG := hid (GU.out i hlt)
          have hc1 : (i : Int) ≤ d1 := by omega
          go_wp2_with fail
          refine HG.out.mono ?_
          rintro e w' ⟨rfl, rfl⟩
          go_wp2_with fail
          go_round
          case rel => exact ⟨i + 1, by go_num, by omega⟩
          case measure => simp [intOf]; omega
        · go_wp2_with fail
          go_loop [20] (fun c => ∃ i : Nat, c = .int .i64 i ∧ i ≤ L2.length) (fun c => L2.length - (intOf c).toNat)
          case atStart => exact ⟨0, rfl, Nat.zero_le _⟩
          case round =>
            obtain ⟨j, rfl, hj⟩ := hrel
            by_cases hlt2 : j < L2.length
            · have HG := hid (GS.out j hlt2)
              have hc2 : (j : Int) ≤ d2 := by omega
              go_wp2_with fail
              refine HG.out.mono ?_
              rintro e w' ⟨rfl, rfl⟩
              go_wp2_with fail
              go_round
              case rel => exact ⟨j + 1, by go_num, by omega⟩
              case measure => simp [intOf]; omega
            · go_wp2_with fail
              refine (awake1_any _).mono ?_
              rintro e w' ⟨rfl, hna⟩
              go_wp2_with fail
              go_ret
              exact ⟨rfl, New.trans HN6.out hna⟩
theorem lebBack_walk' (x p q : Int) (w : World) (hx : 0 ≤ x ∧ x < 18446744073709551616) (hp : 0 ≤ p ∧ p < 256) (hq : 0 ≤ q ∧ q < 256) :
    Calls Try.prog 5 #[.int .u64 x, .int .u8 p, .int .u8 q] w (True' w) := by
  obtain ⟨x, rfl⟩ := Int.eq_ofNat_of_zero_le hx.1
  obtain ⟨p, rfl⟩ := Int.eq_ofNat_of_zero_le hp.1
  obtain ⟨q, rfl⟩ := Int.eq_ofNat_of_zero_le hq.1
  exact lebBack_walk x p q w (by omega) (by omega) (by omega)
end Go.Proofs.Ytlmimlnflcfccaa
