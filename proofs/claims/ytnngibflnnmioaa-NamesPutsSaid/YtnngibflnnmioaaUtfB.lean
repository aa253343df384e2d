/-
  The walks of texts: does a sign of so many bytes begin so?
-/
import Derived.Test.YtnngibflnnmioaaUtfR
namespace Go.Proofs.Ytnngibflnnmioaa
open Go.RowKit Go.Proofs.Own Go.Proofs.Utf
set_option maxRecDepth 100000
set_option maxHeartbeats 2000000

theorem go_zero (t : List UInt8) (n least most : Nat) : Utf.go t 0 n least most = (decide (least ≤ n ∧ n < most) && Utf.is n) := by cases t <;> rfl

theorem begins1_any (s : ByteArray) (w : World) (hs0 : 0 < s.size) (hs : s.size ≤ 9223372036854775807) :
    Calls Try.prog 93 #[.string s, .int .i64 1] w fun e w' => e = .returned (.bool (sign s.data.toList 0)) ∧ New w w' := by
  have hrun : begins s.data.toList 0 0 128 0 128 = sign s.data.toList 0 := begins0 _
  generalize sign s.data.toList 0 = r at *
  have hd0 := drop_at s 0 hs0
  rw [List.drop_zero] at hd0
  obtain ⟨x, hx⟩ : ∃ x, s[0] = x := ⟨_, rfl⟩
  have hx2 : s[0].toNat = x.toNat := by rw [hx]
  rw [hx] at hd0
  rw [hd0] at hrun
  have hx3 := u8_lt x
  obtain ⟨w3, hw3⟩ : ∃ w3, ((w.alloc (.cells #[.int .i64 128, .int .i64 2048, .int .i64 65536, .int .i64 1114112] 3)).alloc (.cells #[.int .i64 0, .int .i64 192, .int .i64 224, .int .i64 240] 3)).alloc (.cells #[.int .i64 128, .int .i64 32, .int .i64 16, .int .i64 8] 3) = w3 := ⟨_, rfl⟩
  have HN3 : Hid (New w w3) := by show New _ _; rw [← hw3]; exact (((Upd.refl _ _).alloc _).alloc _).alloc _
  have HK : Hid (w3.cell? ⟨w.heap.size, 0, none⟩ = some (.int .i64 128)) := by
    show _ = _
    rw [← hw3]
    exact Upd.cell (S := fun _ => False) (((Upd.refl _ _).alloc _).alloc _) (show (w.alloc (.cells #[.int .i64 128, .int .i64 2048, .int .i64 65536, .int .i64 1114112] 3)).cell? ⟨w.heap.size, 0, none⟩ = _ by simp) (fun h => h)
  have HW3 := hid hw3
  clear hw3
  by_cases hb : x.toNat < 0 ∨ 0 + 128 ≤ x.toNat
  · have HE : Hid (r = false) := by rw [begins_out hb] at hrun; exact hrun.symm
    clear hrun hd0 hx
    by_cases hb1 : x.toNat < 0
    · exact absurd hb1 (Nat.not_lt_zero _)
    · have hb2 : 0 + 128 ≤ x.toNat := by omega
      have hb3 : (128 : Int) ≤ (x.toNat : Int) - 0 := by omega
      go_enter Try.func93, Try.ntmps93
      go_wp2_with fail
      go_ret
      exact ⟨by rw [HE.out]; rfl, by repeat (first | exact Upd.refl _ _ | apply Upd.alloc)⟩
  · obtain ⟨n0, hn0⟩ : ∃ n0, x.toNat - 0 = n0 := ⟨_, rfl⟩
    have HG : Hid (Utf.go (s.data.toList.drop 1) 0 n0 0 128 = r) := by
      rw [begins_in hb, hn0] at hrun
      exact hrun
    have hb1 : ¬ x.toNat < 0 := fun h => hb (.inl h)
    have hn1 : n0 < 128 := by omega
    have hn2 : (x.toNat : Int) - 0 = n0 := by omega
    clear hrun hd0 hx hn0 hb
    go_enter Try.func93, Try.ntmps93
    go_wp2_with fail
    have hlen : s.data.toList.length = s.size := by simp
    rw [HW3.out]
    go_loopg [4, 9, 10, 11] (1 - 1) (fun k _ a b _ wr => ∃ i n P : Nat, k = 1 - i ∧ a = .int .i64 n ∧ b = .int .i64 i ∧ 1 ≤ i ∧ i ≤ 1 ∧ i ≤ s.size ∧ P = 64 ^ (i - 1) ∧ n + 1 ≤ 128 * P ∧ w3 = wr ∧ Utf.go (s.data.toList.drop i) (1 - i) n 0 128 = r)
    case atStart => exact ⟨1, n0, 1, rfl, rfl, rfl, by omega, by omega, by omega, rfl, by omega, rfl, HG.out⟩
    case round =>
      obtain ⟨i, n, P, rfl, rfl, rfl, i1, i2, i3, hP, hnb, rfl, hgo⟩ := hrel
      have hPb : P ≤ 262144 := by rw [hP]; exact pow64 (by omega)
      have HP := hid hP
      have HGO := hid hgo
      have hk := HK.out
      clear hP hgo
      by_cases hlt : i < 1
      · omega
      · obtain rfl : i = 1 := by omega
        have HE : Hid ((decide (0 ≤ n ∧ n < 128) && Utf.is n) = r) := by
          have hgo := HGO.out
          rw [Nat.sub_self, go_zero] at hgo
          exact hgo
        have HI := hid (fun w => Is_any n w (by omega))
        by_cases l1 : 0 ≤ n
        · by_cases l2 : n < 128
          · rw [decide_eq_true ⟨l1, l2⟩, Bool.true_and] at HE
            rw [HE.out] at HI
            have k1 : (0 : Int) ≤ n := by omega
            have k2 : (n : Int) < 128 := by omega
            clear l1 l2
            go_wp2_with fail
            refine (HI.out _).mono ?_
            rintro e w' ⟨rfl, rfl⟩
            go_wp2_with fail
            go_ret
            exact ⟨rfl, HN3.out⟩
          · rw [decide_eq_false (by omega : ¬ (0 ≤ n ∧ n < 128)), Bool.false_and] at HE
            have k1 : (0 : Int) ≤ n := by omega
            have k2 : ((n : Int) < 128) = False := eq_false (by omega)
            clear l1 l2
            go_wp2_with fail
            go_ret
            exact ⟨by rw [← HE.out]; rfl, HN3.out⟩
        · exact absurd (Nat.zero_le n) l1

theorem begins2_any (s : ByteArray) (w : World) (hs0 : 0 < s.size) (hs : s.size ≤ 9223372036854775807) :
    Calls Try.prog 93 #[.string s, .int .i64 2] w fun e w' => e = .returned (.bool (sign s.data.toList 1)) ∧ New w w' := by
  have hrun : begins s.data.toList 1 192 32 128 2048 = sign s.data.toList 1 := begins1 _
  generalize sign s.data.toList 1 = r at *
  have hd0 := drop_at s 0 hs0
  rw [List.drop_zero] at hd0
  obtain ⟨x, hx⟩ : ∃ x, s[0] = x := ⟨_, rfl⟩
  have hx2 : s[0].toNat = x.toNat := by rw [hx]
  rw [hx] at hd0
  rw [hd0] at hrun
  have hx3 := u8_lt x
  obtain ⟨w3, hw3⟩ : ∃ w3, ((w.alloc (.cells #[.int .i64 128, .int .i64 2048, .int .i64 65536, .int .i64 1114112] 3)).alloc (.cells #[.int .i64 0, .int .i64 192, .int .i64 224, .int .i64 240] 3)).alloc (.cells #[.int .i64 128, .int .i64 32, .int .i64 16, .int .i64 8] 3) = w3 := ⟨_, rfl⟩
  have HN3 : Hid (New w w3) := by show New _ _; rw [← hw3]; exact (((Upd.refl _ _).alloc _).alloc _).alloc _
  have HK : Hid (w3.cell? ⟨w.heap.size, 1, none⟩ = some (.int .i64 2048)) := by
    show _ = _
    rw [← hw3]
    exact Upd.cell (S := fun _ => False) (((Upd.refl _ _).alloc _).alloc _) (show (w.alloc (.cells #[.int .i64 128, .int .i64 2048, .int .i64 65536, .int .i64 1114112] 3)).cell? ⟨w.heap.size, 1, none⟩ = _ by simp) (fun h => h)
  have HW3 := hid hw3
  clear hw3
  by_cases hb : x.toNat < 192 ∨ 192 + 32 ≤ x.toNat
  · have HE : Hid (r = false) := by rw [begins_out hb] at hrun; exact hrun.symm
    clear hrun hd0 hx
    by_cases hb1 : x.toNat < 192
    · go_enter Try.func93, Try.ntmps93
      go_wp2_with fail
      go_ret
      exact ⟨by rw [HE.out]; rfl, by repeat (first | exact Upd.refl _ _ | apply Upd.alloc)⟩
    · have hb2 : 192 + 32 ≤ x.toNat := by omega
      have hb3 : (32 : Int) ≤ (x.toNat : Int) - 192 := by omega
      go_enter Try.func93, Try.ntmps93
      go_wp2_with fail
      go_ret
      exact ⟨by rw [HE.out]; rfl, by repeat (first | exact Upd.refl _ _ | apply Upd.alloc)⟩
  · obtain ⟨n0, hn0⟩ : ∃ n0, x.toNat - 192 = n0 := ⟨_, rfl⟩
    have HG : Hid (Utf.go (s.data.toList.drop 1) 1 n0 128 2048 = r) := by
      rw [begins_in hb, hn0] at hrun
      exact hrun
    have hb1 : ¬ x.toNat < 192 := fun h => hb (.inl h)
    have hn1 : n0 < 32 := by omega
    have hn2 : (x.toNat : Int) - 192 = n0 := by omega
    clear hrun hd0 hx hn0 hb
    go_enter Try.func93, Try.ntmps93
    go_wp2_with fail
    have hlen : s.data.toList.length = s.size := by simp
    rw [HW3.out]
    go_loopg [4, 9, 10, 11] (2 - 1) (fun k _ a b _ wr => ∃ i n P : Nat, k = 2 - i ∧ a = .int .i64 n ∧ b = .int .i64 i ∧ 1 ≤ i ∧ i ≤ 2 ∧ i ≤ s.size ∧ P = 64 ^ (i - 1) ∧ n + 1 ≤ 128 * P ∧ w3 = wr ∧ Utf.go (s.data.toList.drop i) (2 - i) n 128 2048 = r)
    case atStart => exact ⟨1, n0, 1, rfl, rfl, rfl, by omega, by omega, by omega, rfl, by omega, rfl, HG.out⟩
    case round =>
      obtain ⟨i, n, P, rfl, rfl, rfl, i1, i2, i3, hP, hnb, rfl, hgo⟩ := hrel
      have hPb : P ≤ 262144 := by rw [hP]; exact pow64 (by omega)
      have HP := hid hP
      have HGO := hid hgo
      have hk := HK.out
      clear hP hgo
      by_cases hlt : i < 2
      · by_cases hl : i < s.size
        · have hd := drop_at s i hl
          obtain ⟨y, hy⟩ : ∃ y, s[i] = y := ⟨_, rfl⟩
          have hy2 : s[i].toNat = y.toNat := by rw [hy]
          rw [hy] at hd
          have hy3 := u8_lt y
          have hgo := HGO.out
          rw [hd, show 2 - i = (2 - (i + 1)) + 1 by omega, Utf.go] at hgo
          by_cases hq : y.toNat < 128 ∨ 191 < y.toNat
          · have HE : Hid (r = false) := by rw [if_pos hq] at hgo; exact hgo.symm
            clear hgo hd hy
            by_cases hq1 : y.toNat < 128
            · have hq3 : (y.toNat : Int) - 128 < 0 := by omega
              go_wp2_with fail
              go_ret
              exact ⟨by rw [HE.out]; rfl, HN3.out⟩
            · have hq3 : ¬ (y.toNat : Int) - 128 < 0 := by omega
              have hq4 : (63 : Int) < (y.toNat : Int) - 128 := by omega
              go_wp2_with fail
              go_ret
              exact ⟨by rw [HE.out]; rfl, HN3.out⟩
          · have HE : Hid (Utf.go (s.data.toList.drop (i + 1)) (2 - (i + 1)) (64 * n + (y.toNat - 128)) 128 2048 = r) := by rw [if_neg hq] at hgo; exact hgo
            have HP2 : Hid (P * 64 = 64 ^ (i + 1 - 1)) := by show _ = _; rw [HP.out, ← Nat.pow_succ]; congr 1; omega
            obtain ⟨e, he⟩ : ∃ e, y.toNat - 128 = e := ⟨_, rfl⟩
            have he2 : (y.toNat : Int) - 128 = e := by omega
            have he3 : e ≤ 63 := by omega
            rw [he] at HE
            clear hgo hd hy he hq
            go_wp2_with fail
            go_roundg (2 - (i + 1))
            case measure => omega
            case rel => exact ⟨i + 1, 64 * n + e, P * 64, rfl, by go_num, by go_num, by omega, by omega, by omega, HP2.out, by omega, rfl, HE.out⟩
        · have hP2 : P ≤ 4096 := by
            rw [HP.out]
            have : (64 : Nat) ^ 2 = 4096 := by decide
            rw [← this]; exact Nat.pow_le_pow_right (by decide) (by omega)
          have HA : Hid (∀ w, Calls Try.prog 97 #[.int .i64 n, .int .i64 ((2 - i : Nat) : Int), .int .i64 128, .int .i64 2048] w fun e w' => e = .returned (.bool (clip (wide (2 - i) n n).1 (wide (2 - i) n n).2 128 2048)) ∧ w = w') := fun w => any3_any n (2 - i) 128 2048 w (by omega) (by omega) (by decide) (by decide) (by decide)
          have HE : Hid (clip (wide (2 - i) n n).1 (wide (2 - i) n n).2 128 2048 = r) := by
            have hgo := HGO.out
            have e : s.data.toList.drop i = [] := List.drop_eq_nil_of_le (by omega)
            rw [e, show 2 - i = (2 - (i + 1)) + 1 by omega, Utf.go] at hgo
            rw [show 2 - i = (2 - (i + 1)) + 1 by omega]
            exact hgo
          rw [HE.out] at HA
          have hsi : (2 : Int) - i = ((2 - i : Nat) : Int) := by omega
          have hsi2 : ((2 - i : Nat) : Int) ≤ 4 := by omega
          go_wp2_with fail
          with_reducible refine (HA.out _).mono ?_
          rintro e w' ⟨rfl, rfl⟩
          go_wp2_with fail
          go_ret
          exact ⟨rfl, HN3.out⟩
      · obtain rfl : i = 2 := by omega
        have HE : Hid ((decide (128 ≤ n ∧ n < 2048) && Utf.is n) = r) := by
          have hgo := HGO.out
          rw [Nat.sub_self, go_zero] at hgo
          exact hgo
        have HI := hid (fun w => Is_any n w (by omega))
        by_cases l1 : 128 ≤ n
        · by_cases l2 : n < 2048
          · rw [decide_eq_true ⟨l1, l2⟩, Bool.true_and] at HE
            rw [HE.out] at HI
            have k1 : (128 : Int) ≤ n := by omega
            have k2 : (n : Int) < 2048 := by omega
            clear l1 l2
            go_wp2_with fail
            refine (HI.out _).mono ?_
            rintro e w' ⟨rfl, rfl⟩
            go_wp2_with fail
            go_ret
            exact ⟨rfl, HN3.out⟩
          · rw [decide_eq_false (by omega : ¬ (128 ≤ n ∧ n < 2048)), Bool.false_and] at HE
            have k1 : (128 : Int) ≤ n := by omega
            have k2 : ((n : Int) < 2048) = False := eq_false (by omega)
            clear l1 l2
            go_wp2_with fail
            go_ret
            exact ⟨by rw [← HE.out]; rfl, HN3.out⟩
        · rw [decide_eq_false (by omega : ¬ (128 ≤ n ∧ n < 2048)), Bool.false_and] at HE
          go_wp2_with fail
          go_ret
          exact ⟨by rw [← HE.out]; rfl, HN3.out⟩

theorem begins3_any (s : ByteArray) (w : World) (hs0 : 0 < s.size) (hs : s.size ≤ 9223372036854775807) :
    Calls Try.prog 93 #[.string s, .int .i64 3] w fun e w' => e = .returned (.bool (sign s.data.toList 2)) ∧ New w w' := by
  have hrun : begins s.data.toList 2 224 16 2048 65536 = sign s.data.toList 2 := begins2 _
  generalize sign s.data.toList 2 = r at *
  have hd0 := drop_at s 0 hs0
  rw [List.drop_zero] at hd0
  obtain ⟨x, hx⟩ : ∃ x, s[0] = x := ⟨_, rfl⟩
  have hx2 : s[0].toNat = x.toNat := by rw [hx]
  rw [hx] at hd0
  rw [hd0] at hrun
  have hx3 := u8_lt x
  obtain ⟨w3, hw3⟩ : ∃ w3, ((w.alloc (.cells #[.int .i64 128, .int .i64 2048, .int .i64 65536, .int .i64 1114112] 3)).alloc (.cells #[.int .i64 0, .int .i64 192, .int .i64 224, .int .i64 240] 3)).alloc (.cells #[.int .i64 128, .int .i64 32, .int .i64 16, .int .i64 8] 3) = w3 := ⟨_, rfl⟩
  have HN3 : Hid (New w w3) := by show New _ _; rw [← hw3]; exact (((Upd.refl _ _).alloc _).alloc _).alloc _
  have HK : Hid (w3.cell? ⟨w.heap.size, 2, none⟩ = some (.int .i64 65536)) := by
    show _ = _
    rw [← hw3]
    exact Upd.cell (S := fun _ => False) (((Upd.refl _ _).alloc _).alloc _) (show (w.alloc (.cells #[.int .i64 128, .int .i64 2048, .int .i64 65536, .int .i64 1114112] 3)).cell? ⟨w.heap.size, 2, none⟩ = _ by simp) (fun h => h)
  have HW3 := hid hw3
  clear hw3
  by_cases hb : x.toNat < 224 ∨ 224 + 16 ≤ x.toNat
  · have HE : Hid (r = false) := by rw [begins_out hb] at hrun; exact hrun.symm
    clear hrun hd0 hx
    by_cases hb1 : x.toNat < 224
    · go_enter Try.func93, Try.ntmps93
      go_wp2_with fail
      go_ret
      exact ⟨by rw [HE.out]; rfl, by repeat (first | exact Upd.refl _ _ | apply Upd.alloc)⟩
    · have hb2 : 224 + 16 ≤ x.toNat := by omega
      have hb3 : (16 : Int) ≤ (x.toNat : Int) - 224 := by omega
      go_enter Try.func93, Try.ntmps93
      go_wp2_with fail
      go_ret
      exact ⟨by rw [HE.out]; rfl, by repeat (first | exact Upd.refl _ _ | apply Upd.alloc)⟩
  · obtain ⟨n0, hn0⟩ : ∃ n0, x.toNat - 224 = n0 := ⟨_, rfl⟩
    have HG : Hid (Utf.go (s.data.toList.drop 1) 2 n0 2048 65536 = r) := by
      rw [begins_in hb, hn0] at hrun
      exact hrun
    have hb1 : ¬ x.toNat < 224 := fun h => hb (.inl h)
    have hn1 : n0 < 16 := by omega
    have hn2 : (x.toNat : Int) - 224 = n0 := by omega
    clear hrun hd0 hx hn0 hb
    go_enter Try.func93, Try.ntmps93
    go_wp2_with fail
    have hlen : s.data.toList.length = s.size := by simp
    rw [HW3.out]
    go_loopg [4, 9, 10, 11] (3 - 1) (fun k _ a b _ wr => ∃ i n P : Nat, k = 3 - i ∧ a = .int .i64 n ∧ b = .int .i64 i ∧ 1 ≤ i ∧ i ≤ 3 ∧ i ≤ s.size ∧ P = 64 ^ (i - 1) ∧ n + 1 ≤ 128 * P ∧ w3 = wr ∧ Utf.go (s.data.toList.drop i) (3 - i) n 2048 65536 = r)
    case atStart => exact ⟨1, n0, 1, rfl, rfl, rfl, by omega, by omega, by omega, rfl, by omega, rfl, HG.out⟩
    case round =>
      obtain ⟨i, n, P, rfl, rfl, rfl, i1, i2, i3, hP, hnb, rfl, hgo⟩ := hrel
      have hPb : P ≤ 262144 := by rw [hP]; exact pow64 (by omega)
      have HP := hid hP
      have HGO := hid hgo
      have hk := HK.out
      clear hP hgo
      by_cases hlt : i < 3
      · by_cases hl : i < s.size
        · have hd := drop_at s i hl
          obtain ⟨y, hy⟩ : ∃ y, s[i] = y := ⟨_, rfl⟩
          have hy2 : s[i].toNat = y.toNat := by rw [hy]
          rw [hy] at hd
          have hy3 := u8_lt y
          have hgo := HGO.out
          rw [hd, show 3 - i = (3 - (i + 1)) + 1 by omega, Utf.go] at hgo
          by_cases hq : y.toNat < 128 ∨ 191 < y.toNat
          · have HE : Hid (r = false) := by rw [if_pos hq] at hgo; exact hgo.symm
            clear hgo hd hy
            by_cases hq1 : y.toNat < 128
            · have hq3 : (y.toNat : Int) - 128 < 0 := by omega
              go_wp2_with fail
              go_ret
              exact ⟨by rw [HE.out]; rfl, HN3.out⟩
            · have hq3 : ¬ (y.toNat : Int) - 128 < 0 := by omega
              have hq4 : (63 : Int) < (y.toNat : Int) - 128 := by omega
              go_wp2_with fail
              go_ret
              exact ⟨by rw [HE.out]; rfl, HN3.out⟩
          · have HE : Hid (Utf.go (s.data.toList.drop (i + 1)) (3 - (i + 1)) (64 * n + (y.toNat - 128)) 2048 65536 = r) := by rw [if_neg hq] at hgo; exact hgo
            have HP2 : Hid (P * 64 = 64 ^ (i + 1 - 1)) := by show _ = _; rw [HP.out, ← Nat.pow_succ]; congr 1; omega
            obtain ⟨e, he⟩ : ∃ e, y.toNat - 128 = e := ⟨_, rfl⟩
            have he2 : (y.toNat : Int) - 128 = e := by omega
            have he3 : e ≤ 63 := by omega
            rw [he] at HE
            clear hgo hd hy he hq
            go_wp2_with fail
            go_roundg (3 - (i + 1))
            case measure => omega
            case rel => exact ⟨i + 1, 64 * n + e, P * 64, rfl, by go_num, by go_num, by omega, by omega, by omega, HP2.out, by omega, rfl, HE.out⟩
        · have hP2 : P ≤ 4096 := by
            rw [HP.out]
            have : (64 : Nat) ^ 2 = 4096 := by decide
            rw [← this]; exact Nat.pow_le_pow_right (by decide) (by omega)
          have HA : Hid (∀ w, Calls Try.prog 97 #[.int .i64 n, .int .i64 ((3 - i : Nat) : Int), .int .i64 2048, .int .i64 65536] w fun e w' => e = .returned (.bool (clip (wide (3 - i) n n).1 (wide (3 - i) n n).2 2048 65536)) ∧ w = w') := fun w => any3_any n (3 - i) 2048 65536 w (by omega) (by omega) (by decide) (by decide) (by decide)
          have HE : Hid (clip (wide (3 - i) n n).1 (wide (3 - i) n n).2 2048 65536 = r) := by
            have hgo := HGO.out
            have e : s.data.toList.drop i = [] := List.drop_eq_nil_of_le (by omega)
            rw [e, show 3 - i = (3 - (i + 1)) + 1 by omega, Utf.go] at hgo
            rw [show 3 - i = (3 - (i + 1)) + 1 by omega]
            exact hgo
          rw [HE.out] at HA
          have hsi : (3 : Int) - i = ((3 - i : Nat) : Int) := by omega
          have hsi2 : ((3 - i : Nat) : Int) ≤ 4 := by omega
          go_wp2_with fail
          with_reducible refine (HA.out _).mono ?_
          rintro e w' ⟨rfl, rfl⟩
          go_wp2_with fail
          go_ret
          exact ⟨rfl, HN3.out⟩
      · obtain rfl : i = 3 := by omega
        have HE : Hid ((decide (2048 ≤ n ∧ n < 65536) && Utf.is n) = r) := by
          have hgo := HGO.out
          rw [Nat.sub_self, go_zero] at hgo
          exact hgo
        have HI := hid (fun w => Is_any n w (by omega))
        by_cases l1 : 2048 ≤ n
        · by_cases l2 : n < 65536
          · rw [decide_eq_true ⟨l1, l2⟩, Bool.true_and] at HE
            rw [HE.out] at HI
            have k1 : (2048 : Int) ≤ n := by omega
            have k2 : (n : Int) < 65536 := by omega
            clear l1 l2
            go_wp2_with fail
            refine (HI.out _).mono ?_
            rintro e w' ⟨rfl, rfl⟩
            go_wp2_with fail
            go_ret
            exact ⟨rfl, HN3.out⟩
          · rw [decide_eq_false (by omega : ¬ (2048 ≤ n ∧ n < 65536)), Bool.false_and] at HE
            have k1 : (2048 : Int) ≤ n := by omega
            have k2 : ((n : Int) < 65536) = False := eq_false (by omega)
            clear l1 l2
            go_wp2_with fail
            go_ret
            exact ⟨by rw [← HE.out]; rfl, HN3.out⟩
        · rw [decide_eq_false (by omega : ¬ (2048 ≤ n ∧ n < 65536)), Bool.false_and] at HE
          go_wp2_with fail
          go_ret
          exact ⟨by rw [← HE.out]; rfl, HN3.out⟩

theorem begins4_any (s : ByteArray) (w : World) (hs0 : 0 < s.size) (hs : s.size ≤ 9223372036854775807) :
    Calls Try.prog 93 #[.string s, .int .i64 4] w fun e w' => e = .returned (.bool (sign s.data.toList 3)) ∧ New w w' := by
  have hrun : begins s.data.toList 3 240 8 65536 1114112 = sign s.data.toList 3 := begins3 _
  generalize sign s.data.toList 3 = r at *
  have hd0 := drop_at s 0 hs0
  rw [List.drop_zero] at hd0
  obtain ⟨x, hx⟩ : ∃ x, s[0] = x := ⟨_, rfl⟩
  have hx2 : s[0].toNat = x.toNat := by rw [hx]
  rw [hx] at hd0
  rw [hd0] at hrun
  have hx3 := u8_lt x
  obtain ⟨w3, hw3⟩ : ∃ w3, ((w.alloc (.cells #[.int .i64 128, .int .i64 2048, .int .i64 65536, .int .i64 1114112] 3)).alloc (.cells #[.int .i64 0, .int .i64 192, .int .i64 224, .int .i64 240] 3)).alloc (.cells #[.int .i64 128, .int .i64 32, .int .i64 16, .int .i64 8] 3) = w3 := ⟨_, rfl⟩
  have HN3 : Hid (New w w3) := by show New _ _; rw [← hw3]; exact (((Upd.refl _ _).alloc _).alloc _).alloc _
  have HK : Hid (w3.cell? ⟨w.heap.size, 3, none⟩ = some (.int .i64 1114112)) := by
    show _ = _
    rw [← hw3]
    exact Upd.cell (S := fun _ => False) (((Upd.refl _ _).alloc _).alloc _) (show (w.alloc (.cells #[.int .i64 128, .int .i64 2048, .int .i64 65536, .int .i64 1114112] 3)).cell? ⟨w.heap.size, 3, none⟩ = _ by simp) (fun h => h)
  have HW3 := hid hw3
  clear hw3
  by_cases hb : x.toNat < 240 ∨ 240 + 8 ≤ x.toNat
  · have HE : Hid (r = false) := by rw [begins_out hb] at hrun; exact hrun.symm
    clear hrun hd0 hx
    by_cases hb1 : x.toNat < 240
    · go_enter Try.func93, Try.ntmps93
      go_wp2_with fail
      go_ret
      exact ⟨by rw [HE.out]; rfl, by repeat (first | exact Upd.refl _ _ | apply Upd.alloc)⟩
    · have hb2 : 240 + 8 ≤ x.toNat := by omega
      have hb3 : (8 : Int) ≤ (x.toNat : Int) - 240 := by omega
      go_enter Try.func93, Try.ntmps93
      go_wp2_with fail
      go_ret
      exact ⟨by rw [HE.out]; rfl, by repeat (first | exact Upd.refl _ _ | apply Upd.alloc)⟩
  · obtain ⟨n0, hn0⟩ : ∃ n0, x.toNat - 240 = n0 := ⟨_, rfl⟩
    have HG : Hid (Utf.go (s.data.toList.drop 1) 3 n0 65536 1114112 = r) := by
      rw [begins_in hb, hn0] at hrun
      exact hrun
    have hb1 : ¬ x.toNat < 240 := fun h => hb (.inl h)
    have hn1 : n0 < 8 := by omega
    have hn2 : (x.toNat : Int) - 240 = n0 := by omega
    clear hrun hd0 hx hn0 hb
    go_enter Try.func93, Try.ntmps93
    go_wp2_with fail
    have hlen : s.data.toList.length = s.size := by simp
    rw [HW3.out]
    go_loopg [4, 9, 10, 11] (4 - 1) (fun k _ a b _ wr => ∃ i n P : Nat, k = 4 - i ∧ a = .int .i64 n ∧ b = .int .i64 i ∧ 1 ≤ i ∧ i ≤ 4 ∧ i ≤ s.size ∧ P = 64 ^ (i - 1) ∧ n + 1 ≤ 128 * P ∧ w3 = wr ∧ Utf.go (s.data.toList.drop i) (4 - i) n 65536 1114112 = r)
    case atStart => exact ⟨1, n0, 1, rfl, rfl, rfl, by omega, by omega, by omega, rfl, by omega, rfl, HG.out⟩
    case round =>
      obtain ⟨i, n, P, rfl, rfl, rfl, i1, i2, i3, hP, hnb, rfl, hgo⟩ := hrel
      have hPb : P ≤ 262144 := by rw [hP]; exact pow64 (by omega)
      have HP := hid hP
      have HGO := hid hgo
      have hk := HK.out
      clear hP hgo
      by_cases hlt : i < 4
      · by_cases hl : i < s.size
        · have hd := drop_at s i hl
          obtain ⟨y, hy⟩ : ∃ y, s[i] = y := ⟨_, rfl⟩
          have hy2 : s[i].toNat = y.toNat := by rw [hy]
          rw [hy] at hd
          have hy3 := u8_lt y
          have hgo := HGO.out
          rw [hd, show 4 - i = (4 - (i + 1)) + 1 by omega, Utf.go] at hgo
          by_cases hq : y.toNat < 128 ∨ 191 < y.toNat
          · have HE : Hid (r = false) := by rw [if_pos hq] at hgo; exact hgo.symm
            clear hgo hd hy
            by_cases hq1 : y.toNat < 128
            · have hq3 : (y.toNat : Int) - 128 < 0 := by omega
              go_wp2_with fail
              go_ret
              exact ⟨by rw [HE.out]; rfl, HN3.out⟩
            · have hq3 : ¬ (y.toNat : Int) - 128 < 0 := by omega
              have hq4 : (63 : Int) < (y.toNat : Int) - 128 := by omega
              go_wp2_with fail
              go_ret
              exact ⟨by rw [HE.out]; rfl, HN3.out⟩
          · have HE : Hid (Utf.go (s.data.toList.drop (i + 1)) (4 - (i + 1)) (64 * n + (y.toNat - 128)) 65536 1114112 = r) := by rw [if_neg hq] at hgo; exact hgo
            have HP2 : Hid (P * 64 = 64 ^ (i + 1 - 1)) := by show _ = _; rw [HP.out, ← Nat.pow_succ]; congr 1; omega
            obtain ⟨e, he⟩ : ∃ e, y.toNat - 128 = e := ⟨_, rfl⟩
            have he2 : (y.toNat : Int) - 128 = e := by omega
            have he3 : e ≤ 63 := by omega
            rw [he] at HE
            clear hgo hd hy he hq
            go_wp2_with fail
            go_roundg (4 - (i + 1))
            case measure => omega
            case rel => exact ⟨i + 1, 64 * n + e, P * 64, rfl, by go_num, by go_num, by omega, by omega, by omega, HP2.out, by omega, rfl, HE.out⟩
        · have hP2 : P ≤ 4096 := by
            rw [HP.out]
            have : (64 : Nat) ^ 2 = 4096 := by decide
            rw [← this]; exact Nat.pow_le_pow_right (by decide) (by omega)
          have HA : Hid (∀ w, Calls Try.prog 97 #[.int .i64 n, .int .i64 ((4 - i : Nat) : Int), .int .i64 65536, .int .i64 1114112] w fun e w' => e = .returned (.bool (clip (wide (4 - i) n n).1 (wide (4 - i) n n).2 65536 1114112)) ∧ w = w') := fun w => any3_any n (4 - i) 65536 1114112 w (by omega) (by omega) (by decide) (by decide) (by decide)
          have HE : Hid (clip (wide (4 - i) n n).1 (wide (4 - i) n n).2 65536 1114112 = r) := by
            have hgo := HGO.out
            have e : s.data.toList.drop i = [] := List.drop_eq_nil_of_le (by omega)
            rw [e, show 4 - i = (4 - (i + 1)) + 1 by omega, Utf.go] at hgo
            rw [show 4 - i = (4 - (i + 1)) + 1 by omega]
            exact hgo
          rw [HE.out] at HA
          have hsi : (4 : Int) - i = ((4 - i : Nat) : Int) := by omega
          have hsi2 : ((4 - i : Nat) : Int) ≤ 4 := by omega
          go_wp2_with fail
          with_reducible refine (HA.out _).mono ?_
          rintro e w' ⟨rfl, rfl⟩
          go_wp2_with fail
          go_ret
          exact ⟨rfl, HN3.out⟩
      · obtain rfl : i = 4 := by omega
        have HE : Hid ((decide (65536 ≤ n ∧ n < 1114112) && Utf.is n) = r) := by
          have hgo := HGO.out
          rw [Nat.sub_self, go_zero] at hgo
          exact hgo
        have HI := hid (fun w => Is_any n w (by omega))
        by_cases l1 : 65536 ≤ n
        · by_cases l2 : n < 1114112
          · rw [decide_eq_true ⟨l1, l2⟩, Bool.true_and] at HE
            rw [HE.out] at HI
            have k1 : (65536 : Int) ≤ n := by omega
            have k2 : (n : Int) < 1114112 := by omega
            clear l1 l2
            go_wp2_with fail
            refine (HI.out _).mono ?_
            rintro e w' ⟨rfl, rfl⟩
            go_wp2_with fail
            go_ret
            exact ⟨rfl, HN3.out⟩
          · rw [decide_eq_false (by omega : ¬ (65536 ≤ n ∧ n < 1114112)), Bool.false_and] at HE
            have k1 : (65536 : Int) ≤ n := by omega
            have k2 : ((n : Int) < 1114112) = False := eq_false (by omega)
            clear l1 l2
            go_wp2_with fail
            go_ret
            exact ⟨by rw [← HE.out]; rfl, HN3.out⟩
        · rw [decide_eq_false (by omega : ¬ (65536 ≤ n ∧ n < 1114112)), Bool.false_and] at HE
          go_wp2_with fail
          go_ret
          exact ⟨by rw [← HE.out]; rfl, HN3.out⟩
end Go.Proofs.Ytnngibflnnmioaa
