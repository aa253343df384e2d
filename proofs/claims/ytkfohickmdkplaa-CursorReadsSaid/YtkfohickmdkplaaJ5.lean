/-
  The walks of texts: does a sign of so many bytes begin so?
-/
import Derived.Test.YtkfohickmdkplaaJ4
import Derived.Lib.Strings
import Derived.Test.YtkfohickmdkplaaJ2
namespace Go.Proofs.Ytkfohickmdkplaa
open Go.RowKit Go.Proofs.Own Go.Proofs.Utf
set_option maxRecDepth 100000
set_option maxHeartbeats 2000000

theorem go_zero (t : List UInt8) (n least most : Nat) : Utf.go t 0 n least most = (decide (least ≤ n ∧ n < most) && Utf.is n) := by cases t <;> rfl

theorem begins1_any (s : ByteArray) (w : World) (hs0 : 0 < s.size) (hs : s.size ≤ 9223372036854775807) :
    Calls Try.prog 76 #[.string s, .int .i64 1] w fun e w' => e = .returned (.bool (sign s.data.toList 0)) ∧ New w w' := by
  have hrun : begins s.data.toList 0 0 128 0 128 = sign s.data.toList 0 := begins0 _
  generalize sign s.data.toList 0 = r at *
  have hd0 := drop_at s 0 hs0
  rw [List.drop_zero] at hd0
  obtain ⟨x, hx⟩ : ∃ x, s[0] = x := ⟨_, rfl⟩
  have hx2 : s[0].toNat = x.toNat := by rw [hx]
  rw [hx] at hd0
  rw [hd0] at hrun
  have hx3 := u8_lt x
  obtain ⟨w3, hw3⟩ : ∃ w3, ((w.alloc (.cells #[.int .i64 128, .int .i64 2048, .int .i64 65536, .int .i64 1114112] 3)).alloc (.cells #[.int .i64 0, .int .i64 192, .int .i64 224, .int .i64 240] 3)).alloc (.cells #[.int .i64 128, .int .i64 32, .int .i64 16, .int .i64 8] 3) = w3 := ⟨_, rfl⟩
  have HN3 : Hid (New w w3) := by show New _ _; rw [← hw3]; exact (((Upd.refl _ _).alloc _).alloc _).alloc _
  have HK : Hid (w3.cell? ⟨w.heap.size, 0, none⟩ = some (.int .i64 128)) := by
    show _ = _
    rw [← hw3]
    exact Upd.cell (S := fun _ => False) (((Upd.refl _ _).alloc _).alloc _) (show (w.alloc (.cells #[.int .i64 128, .int .i64 2048, .int .i64 65536, .int .i64 1114112] 3)).cell? ⟨w.heap.size, 0, none⟩ = _ by simp) (fun h => h)
  have HW3 := hid hw3
  clear hw3
  by_cases hb : x.toNat < 0 ∨ 0 + 128 ≤ x.toNat
  · have HE : Hid (r = false) := by rw [begins_out hb] at hrun; exact hrun.symm
    clear hrun hd0 hx
    by_cases hb1 : x.toNat < 0
    · exact absurd hb1 (Nat.not_lt_zero _)
    · have hb2 : 0 + 128 ≤ x.toNat := by omega
      have hb3 : (128 : Int) ≤ (x.toNat : Int) - 0 := by omega
      go_enter Try.func76, Try.ntmps76
      go_wp2_with fail
      go_ret
      exact ⟨by rw [HE.out]; rfl, by repeat (first | exact Upd.refl _ _ | apply Upd.alloc)⟩
  · obtain ⟨n0, hn0⟩ : ∃ n0, x.toNat - 0 = n0 := ⟨_, rfl⟩
    have HG : Hid (Utf.go (s.data.toList.drop 1) 0 n0 0 128 = r) := by
      rw [begins_in hb, hn0] at hrun
      exact hrun
    have hb1 : ¬ x.toNat < 0 := fun h => hb (.inl h)
    have hn1 : n0 < 128 := by omega
    have hn2 : (x.toNat : Int) - 0 = n0 := by omega
    clear hrun hd0 hx hn0 hb
    go_enter Try.func76, Try.ntmps76
    go_wp2_with fail
    have hlen : s.data.toList.length = s.size := by simp
    rw [HW3.out]
    go_loopg [4, 9, 10, 11] (1 - 1) (fun k _ a b _ wr => ∃ i n P : Nat, k = 1 - i ∧ a = .int .i64 n ∧ b = .int .i64 i ∧ 1 ≤ i ∧ i ≤ 1 ∧ i ≤ s.size ∧ P = 64 ^ (i - 1) ∧ n + 1 ≤ 128 * P ∧ w3 = wr ∧ Utf.go (s.data.toList.drop i) (1 - i) n 0 128 = r)
    case atStart => exact ⟨1, n0, 1, rfl, rfl, rfl, by omega, by omega, by omega, rfl, by omega, rfl, HG.out⟩
    case round =>
      obtain ⟨i, n, P, rfl, rfl, rfl, i1, i2, i3, hP, hnb, rfl, hgo⟩ := hrel
      have hPb : P ≤ 262144 := by rw [hP]; exact pow64 (by omega)
      have HP := hid hP
      have HGO := hid hgo
      have hk := HK.out
      clear hP hgo
      by_cases hlt : i < 1
      · omega
      · obtain rfl : i = 1 := by omega
        have HE : Hid ((decide (0 ≤ n ∧ n < 128) && Utf.is n) = r) := by
          have hgo := HGO.out
          rw [Nat.sub_self, go_zero] at hgo
          exact hgo
        have HI := hid (fun w => Is_any n w (by omega))
        by_cases l1 : 0 ≤ n
        · by_cases l2 : n < 128
          · rw [decide_eq_true ⟨l1, l2⟩, Bool.true_and] at HE
            rw [HE.out] at HI
            have k1 : (0 : Int) ≤ n := by omega
            have k2 : (n : Int) < 128 := by omega
            clear l1 l2
            go_wp2_with fail
            refine (HI.out _).mono ?_
            rintro e w' ⟨rfl, rfl⟩
            go_wp2_with fail
            go_ret
            exact ⟨rfl, HN3.out⟩
          · rw [decide_eq_false (by omega : ¬ (0 ≤ n ∧ n < 128)), Bool.false_and] at HE
            have k1 : (0 : Int) ≤ n := by omega
            have k2 : ((n : Int) < 128) = False := eq_false (by omega)
            clear l1 l2
            go_wp2_with fail
            go_ret
            exact ⟨by rw [← HE.out]; rfl, HN3.out⟩
        · exact absurd (Nat.zero_le n) l1

theorem begins2_any (s : ByteArray) (w : World) (hs0 : 0 < s.size) (hs : s.size ≤ 9223372036854775807) :
    Calls Try.prog 76 #[.string s, .int .i64 2] w fun e w' => e = .returned (.bool (sign s.data.toList 1)) ∧ New w w' := by
  have hrun : begins s.data.toList 1 192 32 128 2048 = sign s.data.toList 1 := begins1 _
  generalize sign s.data.toList 1 = r at *
  have hd0 := drop_at s 0 hs0
  rw [List.drop_zero] at hd0
  obtain ⟨x, hx⟩ : ∃ x, s[0] = x := ⟨_, rfl⟩
  have hx2 : s[0].toNat = x.toNat := by rw [hx]
  rw [hx] at hd0
  rw [hd0] at hrun
  have hx3 := u8_lt x
  obtain ⟨w3, hw3⟩ : ∃ w3, ((w.alloc (.cells #[.int .i64 128, .int .i64 2048, .int .i64 65536, .int .i64 1114112] 3)).alloc (.cells #[.int .i64 0, .int .i64 192, .int .i64 224, .int .i64 240] 3)).alloc (.cells #[.int .i64 128, .int .i64 32, .int .i64 16, .int .i64 8] 3) = w3 := ⟨_, rfl⟩
  have HN3 : Hid (New w w3) := by show New _ _; rw [← hw3]; exact (((Upd.refl _ _).alloc _).alloc _).alloc _
  have HK : Hid (w3.cell? ⟨w.heap.size, 1, none⟩ = some (.int .i64 2048)) := by
    show _ = _
    rw [← hw3]
    exact Upd.cell (S := fun _ => False) (((Upd.refl _ _).alloc _).alloc _) (show (w.alloc (.cells #[.int .i64 128, .int .i64 2048, .int .i64 65536, .int .i64 1114112] 3)).cell? ⟨w.heap.size, 1, none⟩ = _ by simp) (fun h => h)
  have HW3 := hid hw3
  clear hw3
  by_cases hb : x.toNat < 192 ∨ 192 + 32 ≤ x.toNat
  · have HE : Hid (r = false) := by rw [begins_out hb] at hrun; exact hrun.symm
    clear hrun hd0 hx
    by_cases hb1 : x.toNat < 192
    · go_enter Try.func76, Try.ntmps76
      go_wp2_with fail
      go_ret
      exact ⟨by rw [HE.out]; rfl, by repeat (first | exact Upd.refl _ _ | apply Upd.alloc)⟩
    · have hb2 : 192 + 32 ≤ x.toNat := by omega
      have hb3 : (32 : Int) ≤ (x.toNat : Int) - 192 := by omega
      go_enter Try.func76, Try.ntmps76
      go_wp2_with fail
      go_ret
      exact ⟨by rw [HE.out]; rfl, by repeat (first | exact Upd.refl _ _ | apply Upd.alloc)⟩
  · obtain ⟨n0, hn0⟩ : ∃ n0, x.toNat - 192 = n0 := ⟨_, rfl⟩
    have HG : Hid (Utf.go (s.data.toList.drop 1) 1 n0 128 2048 = r) := by
      rw [begins_in hb, hn0] at hrun
      exact hrun
    have hb1 : ¬ x.toNat < 192 := fun h => hb (.inl h)
    have hn1 : n0 < 32 := by omega
    have hn2 : (x.toNat : Int) - 192 = n0 := by omega
    clear hrun hd0 hx hn0 hb
    go_enter Try.func76, Try.ntmps76
    go_wp2_with fail
    have hlen : s.data.toList.length = s.size := by simp
    rw [HW3.out]
    go_loopg [4, 9, 10, 11] (2 - 1) (fun k _ a b _ wr => ∃ i n P : Nat, k = 2 - i ∧ a = .int .i64 n ∧ b = .int .i64 i ∧ 1 ≤ i ∧ i ≤ 2 ∧ i ≤ s.size ∧ P = 64 ^ (i - 1) ∧ n + 1 ≤ 128 * P ∧ w3 = wr ∧ Utf.go (s.data.toList.drop i) (2 - i) n 128 2048 = r)
    case atStart => exact ⟨1, n0, 1, rfl, rfl, rfl, by omega, by omega, by omega, rfl, by omega, rfl, HG.out⟩
    case round =>
      obtain ⟨i, n, P, rfl, rfl, rfl, i1, i2, i3, hP, hnb, rfl, hgo⟩ := hrel
      have hPb : P ≤ 262144 := by rw [hP]; exact pow64 (by omega)
      have HP := hid hP
      have HGO := hid hgo
      have hk := HK.out
      clear hP hgo
      by_cases hlt : i < 2
      · by_cases hl : i < s.size
        · have hd := drop_at s i hl
          obtain ⟨y, hy⟩ : ∃ y, s[i] = y := ⟨_, rfl⟩
          have hy2 : s[i].toNat = y.toNat := by rw [hy]
          rw [hy] at hd
          have hy3 := u8_lt y
          have hgo := HGO.out
          rw [hd, show 2 - i = (2 - (i + 1)) + 1 by omega, Utf.go] at hgo
          by_cases hq : y.toNat < 128 ∨ 191 < y.toNat
          · have HE : Hid (r = false) := by rw [if_pos hq] at hgo; exact hgo.symm
            clear hgo hd hy
            by_cases hq1 : y.toNat < 128
            · have hq3 : (y.toNat : Int) - 128 < 0 := by omega
              go_wp2_with fail
              go_ret
              exact ⟨by rw [HE.out]; rfl, HN3.out⟩
            · have hq3 : ¬ (y.toNat : Int) - 128 < 0 := by omega
              have hq4 : (63 : Int) < (y.toNat : Int) - 128 := by omega
              go_wp2_with fail
              go_ret
              exact ⟨by rw [HE.out]; rfl, HN3.out⟩
          · have HE : Hid (Utf.go (s.data.toList.drop (i + 1)) (2 - (i + 1)) (64 * n + (y.toNat - 128)) 128 2048 = r) := by rw [if_neg hq] at hgo; exact hgo
            have HP2 : Hid (P * 64 = 64 ^ (i + 1 - 1)) := by show _ = _; rw [HP.out, ← Nat.pow_succ]; congr 1; omega
            obtain ⟨e, he⟩ : ∃ e, y.toNat - 128 = e := ⟨_, rfl⟩
            have he2 : (y.toNat : Int) - 128 = e := by omega
            have he3 : e ≤ 63 := by omega
            rw [he] at HE
            clear hgo hd hy he hq
            go_wp2_with fail
            go_roundg (2 - (i + 1))
            case measure => omega
            case rel => exact ⟨i + 1, 64 * n + e, P * 64, rfl, by go_num, by go_num, by omega, by omega, by omega, HP2.out, by omega, rfl, HE.out⟩
        · have hP2 : P ≤ 4096 := by
            rw [HP.out]
            have : (64 : Nat) ^ 2 = 4096 := by decide
            rw [← this]; exact Nat.pow_le_pow_right (by decide) (by omega)
          have HA : Hid (∀ w, Calls Try.prog 79 #[.int .i64 n, .int .i64 ((2 - i : Nat) : Int), .int .i64 128, .int .i64 2048] w fun e w' => e = .returned (.bool (clip (wide (2 - i) n n).1 (wide (2 - i) n n).2 128 2048)) ∧ w = w') := fun w => any3_any n (2 - i) 128 2048 w (by omega) (by omega) (by decide) (by decide) (by decide)
          have HE : Hid (clip (wide (2 - i) n n).1 (wide (2 - i) n n).2 128 2048 = r) := by
            have hgo := HGO.out
            have e : s.data.toList.drop i = [] := List.drop_eq_nil_of_le (by omega)
            rw [e, show 2 - i = (2 - (i + 1)) + 1 by omega, Utf.go] at hgo
            rw [show 2 - i = (2 - (i + 1)) + 1 by omega]
            exact hgo
          rw [HE.out] at HA
          have hsi : (2 : Int) - i = ((2 - i : Nat) : Int) := by omega
          have hsi2 : ((2 - i : Nat) : Int) ≤ 4 := by omega
          go_wp2_with fail
          with_reducible refine (HA.out _).mono ?_
          rintro e w' ⟨rfl, rfl⟩
          go_wp2_with fail
          go_ret
          exact ⟨rfl, HN3.out⟩
      · obtain rfl : i = 2 := by omega
        have HE : Hid ((decide (128 ≤ n ∧ n < 2048) && Utf.is n) = r) := by
          have hgo := HGO.out
          rw [Nat.sub_self, go_zero] at hgo
          exact hgo
        have HI := hid (fun w => Is_any n w (by omega))
        by_cases l1 : 128 ≤ n
        · by_cases l2 : n < 2048
          · rw [decide_eq_true ⟨l1, l2⟩, Bool.true_and] at HE
            rw [HE.out] at HI
            have k1 : (128 : Int) ≤ n := by omega
            have k2 : (n : Int) < 2048 := by omega
            clear l1 l2
            go_wp2_with fail
            refine (HI.out _).mono ?_
            rintro e w' ⟨rfl, rfl⟩
            go_wp2_with fail
            go_ret
            exact ⟨rfl, HN3.out⟩
          · rw [decide_eq_false (by omega : ¬ (128 ≤ n ∧ n < 2048)), Bool.false_and] at HE
            have k1 : (128 : Int) ≤ n := by omega
            have k2 : ((n : Int) < 2048) = False := eq_false (by omega)
            clear l1 l2
            go_wp2_with fail
            go_ret
            exact ⟨by rw [← HE.out]; rfl, HN3.out⟩
        · rw [decide_eq_false (by omega : ¬ (128 ≤ n ∧ n < 2048)), Bool.false_and] at HE
          go_wp2_with fail
          go_ret
          exact ⟨by rw [← HE.out]; rfl, HN3.out⟩

theorem begins3_any (s : ByteArray) (w : World) (hs0 : 0 < s.size) (hs : s.size ≤ 9223372036854775807) :
    Calls Try.prog 76 #[.string s, .int .i64 3] w fun e w' => e = .returned (.bool (sign s.data.toList 2)) ∧ New w w' := by
  have hrun : begins s.data.toList 2 224 16 2048 65536 = sign s.data.toList 2 := begins2 _
  generalize sign s.data.toList 2 = r at *
  have hd0 := drop_at s 0 hs0
  rw [List.drop_zero] at hd0
  obtain ⟨x, hx⟩ : ∃ x, s[0] = x := ⟨_, rfl⟩
  have hx2 : s[0].toNat = x.toNat := by rw [hx]
  rw [hx] at hd0
  rw [hd0] at hrun
  have hx3 := u8_lt x
  obtain ⟨w3, hw3⟩ : ∃ w3, ((w.alloc (.cells #[.int .i64 128, .int .i64 2048, .int .i64 65536, .int .i64 1114112] 3)).alloc (.cells #[.int .i64 0, .int .i64 192, .int .i64 224, .int .i64 240] 3)).alloc (.cells #[.int .i64 128, .int .i64 32, .int .i64 16, .int .i64 8] 3) = w3 := ⟨_, rfl⟩
  have HN3 : Hid (New w w3) := by show New _ _; rw [← hw3]; exact (((Upd.refl _ _).alloc _).alloc _).alloc _
  have HK : Hid (w3.cell? ⟨w.heap.size, 2, none⟩ = some (.int .i64 65536)) := by
    show _ = _
    rw [← hw3]
    exact Upd.cell (S := fun _ => False) (((Upd.refl _ _).alloc _).alloc _) (show (w.alloc (.cells #[.int .i64 128, .int .i64 2048, .int .i64 65536, .int .i64 1114112] 3)).cell? ⟨w.heap.size, 2, none⟩ = _ by simp) (fun h => h)
  have HW3 := hid hw3
  clear hw3
  by_cases hb : x.toNat < 224 ∨ 224 + 16 ≤ x.toNat
  · have HE : Hid (r = false) := by rw [begins_out hb] at hrun; exact hrun.symm
    clear hrun hd0 hx
    by_cases hb1 : x.toNat < 224
    · go_enter Try.func76, Try.ntmps76
      go_wp2_with fail
      go_ret
      exact ⟨by rw [HE.out]; rfl, by repeat (first | exact Upd.refl _ _ | apply Upd.alloc)⟩
    · have hb2 : 224 + 16 ≤ x.toNat := by omega
      have hb3 : (16 : Int) ≤ (x.toNat : Int) - 224 := by omega
      go_enter Try.func76, Try.ntmps76
      go_wp2_with fail
      go_ret
      exact ⟨by rw [HE.out]; rfl, by repeat (first | exact Upd.refl _ _ | apply Upd.alloc)⟩
  · obtain ⟨n0, hn0⟩ : ∃ n0, x.toNat - 224 = n0 := ⟨_, rfl⟩
    have HG : Hid (Utf.go (s.data.toList.drop 1) 2 n0 2048 65536 = r) := by
      rw [begins_in hb, hn0] at hrun
      exact hrun
    have hb1 : ¬ x.toNat < 224 := fun h => hb (.inl h)
    have hn1 : n0 < 16 := by omega
    have hn2 : (x.toNat : Int) - 224 = n0 := by omega
    clear hrun hd0 hx hn0 hb
    go_enter Try.func76, Try.ntmps76
    go_wp2_with fail
    have hlen : s.data.toList.length = s.size := by simp
    rw [HW3.out]
    go_loopg [4, 9, 10, 11] (3 - 1) (fun k _ a b _ wr => ∃ i n P : Nat, k = 3 - i ∧ a = .int .i64 n ∧ b = .int .i64 i ∧ 1 ≤ i ∧ i ≤ 3 ∧ i ≤ s.size ∧ P = 64 ^ (i - 1) ∧ n + 1 ≤ 128 * P ∧ w3 = wr ∧ Utf.go (s.data.toList.drop i) (3 - i) n 2048 65536 = r)
    case atStart => exact ⟨1, n0, 1, rfl, rfl, rfl, by omega, by omega, by omega, rfl, by omega, rfl, HG.out⟩
    case round =>
      obtain ⟨i, n, P, rfl, rfl, rfl, i1, i2, i3, hP, hnb, rfl, hgo⟩ := hrel
      have hPb : P ≤ 262144 := by rw [hP]; exact pow64 (by omega)
      have HP := hid hP
      have HGO := hid hgo
      have hk := HK.out
      clear hP hgo
      by_cases hlt : i < 3
      · by_cases hl : i < s.size
        · have hd := drop_at s i hl
          obtain ⟨y, hy⟩ : ∃ y, s[i] = y := ⟨_, rfl⟩
          have hy2 : s[i].toNat = y.toNat := by rw [hy]
          rw [hy] at hd
          have hy3 := u8_lt y
          have hgo := HGO.out
          rw [hd, show 3 - i = (3 - (i + 1)) + 1 by omega, Utf.go] at hgo
          by_cases hq : y.toNat < 128 ∨ 191 < y.toNat
          · have HE : Hid (r = false) := by rw [if_pos hq] at hgo; exact hgo.symm
            clear hgo hd hy
            by_cases hq1 : y.toNat < 128
            · have hq3 : (y.toNat : Int) - 128 < 0 := by omega
              go_wp2_with fail
              go_ret
              exact ⟨by rw [HE.out]; rfl, HN3.out⟩
            · have hq3 : ¬ (y.toNat : Int) - 128 < 0 := by omega
              have hq4 : (63 : Int) < (y.toNat : Int) - 128 := by omega
              go_wp2_with fail
              go_ret
              exact ⟨by rw [HE.out]; rfl, HN3.out⟩
          · have HE : Hid (Utf.go (s.data.toList.drop (i + 1)) (3 - (i + 1)) (64 * n + (y.toNat - 128)) 2048 65536 = r) := by rw [if_neg hq] at hgo; exact hgo
            have HP2 : Hid (P * 64 = 64 ^ (i + 1 - 1)) := by show _ = _; rw [HP.out, ← Nat.pow_succ]; congr 1; omega
            obtain ⟨e, he⟩ : ∃ e, y.toNat - 128 = e := ⟨_, rfl⟩
            have he2 : (y.toNat : Int) - 128 = e := by omega
            have he3 : e ≤ 63 := by omega
            rw [he] at HE
            clear hgo hd hy he hq
            go_wp2_with fail
            go_roundg (3 - (i + 1))
            case measure => omega
            case rel => exact ⟨i + 1, 64 * n + e, P * 64, rfl, by go_num, by go_num, by omega, by omega, by omega, HP2.out, by omega, rfl, HE.out⟩
        · have hP2 : P ≤ 4096 := by
            rw [HP.out]
            have : (64 : Nat) ^ 2 = 4096 := by decide
            rw [← this]; exact Nat.pow_le_pow_right (by decide) (by omega)
          have HA : Hid (∀ w, Calls Try.prog 79 #[.int .i64 n, .int .i64 ((3 - i : Nat) : Int), .int .i64 2048, .int .i64 65536] w fun e w' => e = .returned (.bool (clip (wide (3 - i) n n).1 (wide (3 - i) n n).2 2048 65536)) ∧ w = w') := fun w => any3_any n (3 - i) 2048 65536 w (by omega) (by omega) (by decide) (by decide) (by decide)
          have HE : Hid (clip (wide (3 - i) n n).1 (wide (3 - i) n n).2 2048 65536 = r) := by
            have hgo := HGO.out
            have e : s.data.toList.drop i = [] := List.drop_eq_nil_of_le (by omega)
            rw [e, show 3 - i = (3 - (i + 1)) + 1 by omega, Utf.go] at hgo
            rw [show 3 - i = (3 - (i + 1)) + 1 by omega]
            exact hgo
          rw [HE.out] at HA
          have hsi : (3 : Int) - i = ((3 - i : Nat) : Int) := by omega
          have hsi2 : ((3 - i : Nat) : Int) ≤ 4 := by omega
          go_wp2_with fail
          with_reducible refine (HA.out _).mono ?_
          rintro e w' ⟨rfl, rfl⟩
          go_wp2_with fail
          go_ret
          exact ⟨rfl, HN3.out⟩
      · obtain rfl : i = 3 := by omega
        have HE : Hid ((decide (2048 ≤ n ∧ n < 65536) && Utf.is n) = r) := by
          have hgo := HGO.out
          rw [Nat.sub_self, go_zero] at hgo
          exact hgo
        have HI := hid (fun w => Is_any n w (by omega))
        by_cases l1 : 2048 ≤ n
        · by_cases l2 : n < 65536
          · rw [decide_eq_true ⟨l1, l2⟩, Bool.true_and] at HE
            rw [HE.out] at HI
            have k1 : (2048 : Int) ≤ n := by omega
            have k2 : (n : Int) < 65536 := by omega
            clear l1 l2
            go_wp2_with fail
            refine (HI.out _).mono ?_
            rintro e w' ⟨rfl, rfl⟩
            go_wp2_with fail
            go_ret
            exact ⟨rfl, HN3.out⟩
          · rw [decide_eq_false (by omega : ¬ (2048 ≤ n ∧ n < 65536)), Bool.false_and] at HE
            have k1 : (2048 : Int) ≤ n := by omega
            have k2 : ((n : Int) < 65536) = False := eq_false (by omega)
            clear l1 l2
            go_wp2_with fail
            go_ret
            exact ⟨by rw [← HE.out]; rfl, HN3.out⟩
        · rw [decide_eq_false (by omega : ¬ (2048 ≤ n ∧ n < 65536)), Bool.false_and] at HE
          go_wp2_with fail
          go_ret
          exact ⟨by rw [← HE.out]; rfl, HN3.out⟩

theorem begins4_any (s : ByteArray) (w : World) (hs0 : 0 < s.size) (hs : s.size ≤ 9223372036854775807) :
    Calls Try.prog 76 #[.string s, .int .i64 4] w fun e w' => e = .returned (.bool (sign s.data.toList 3)) ∧ New w w' := by
  have hrun : begins s.data.toList 3 240 8 65536 1114112 = sign s.data.toList 3 := begins3 _
  generalize sign s.data.toList 3 = r at *
  have hd0 := drop_at s 0 hs0
  rw [List.drop_zero] at hd0
  obtain ⟨x, hx⟩ : ∃ x, s[0] = x := ⟨_, rfl⟩
  have hx2 : s[0].toNat = x.toNat := by rw [hx]
  rw [hx] at hd0
  rw [hd0] at hrun
  have hx3 := u8_lt x
  obtain ⟨w3, hw3⟩ : ∃ w3, ((w.alloc (.cells #[.int .i64 128, .int .i64 2048, .int .i64 65536, .int .i64 1114112] 3)).alloc (.cells #[.int .i64 0, .int .i64 192, .int .i64 224, .int .i64 240] 3)).alloc (.cells #[.int .i64 128, .int .i64 32, .int .i64 16, .int .i64 8] 3) = w3 := ⟨_, rfl⟩
  have HN3 : Hid (New w w3) := by show New _ _; rw [← hw3]; exact (((Upd.refl _ _).alloc _).alloc _).alloc _
  have HK : Hid (w3.cell? ⟨w.heap.size, 3, none⟩ = some (.int .i64 1114112)) := by
    show _ = _
    rw [← hw3]
    exact Upd.cell (S := fun _ => False) (((Upd.refl _ _).alloc _).alloc _) (show (w.alloc (.cells #[.int .i64 128, .int .i64 2048, .int .i64 65536, .int .i64 1114112] 3)).cell? ⟨w.heap.size, 3, none⟩ = _ by simp) (fun h => h)
  have HW3 := hid hw3
  clear hw3
  by_cases hb : x.toNat < 240 ∨ 240 + 8 ≤ x.toNat
  · have HE : Hid (r = false) := by rw [begins_out hb] at hrun; exact hrun.symm
    clear hrun hd0 hx
    by_cases hb1 : x.toNat < 240
    · go_enter Try.func76, Try.ntmps76
      go_wp2_with fail
      go_ret
      exact ⟨by rw [HE.out]; rfl, by repeat (first | exact Upd.refl _ _ | apply Upd.alloc)⟩
    · have hb2 : 240 + 8 ≤ x.toNat := by omega
      have hb3 : (8 : Int) ≤ (x.toNat : Int) - 240 := by omega
      go_enter Try.func76, Try.ntmps76
      go_wp2_with fail
      go_ret
      exact ⟨by rw [HE.out]; rfl, by repeat (first | exact Upd.refl _ _ | apply Upd.alloc)⟩
  · obtain ⟨n0, hn0⟩ : ∃ n0, x.toNat - 240 = n0 := ⟨_, rfl⟩
    have HG : Hid (Utf.go (s.data.toList.drop 1) 3 n0 65536 1114112 = r) := by
      rw [begins_in hb, hn0] at hrun
      exact hrun
    have hb1 : ¬ x.toNat < 240 := fun h => hb (.inl h)
    have hn1 : n0 < 8 := by omega
    have hn2 : (x.toNat : Int) - 240 = n0 := by omega
    clear hrun hd0 hx hn0 hb
    go_enter Try.func76, Try.ntmps76
    go_wp2_with fail
    have hlen : s.data.toList.length = s.size := by simp
    rw [HW3.out]
    go_loopg [4, 9, 10, 11] (4 - 1) (fun k _ a b _ wr => ∃ i n P : Nat, k = 4 - i ∧ a = .int .i64 n ∧ b = .int .i64 i ∧ 1 ≤ i ∧ i ≤ 4 ∧ i ≤ s.size ∧ P = 64 ^ (i - 1) ∧ n + 1 ≤ 128 * P ∧ w3 = wr ∧ Utf.go (s.data.toList.drop i) (4 - i) n 65536 1114112 = r)
    case atStart => exact ⟨1, n0, 1, rfl, rfl, rfl, by omega, by omega, by omega, rfl, by omega, rfl, HG.out⟩
    case round =>
      obtain ⟨i, n, P, rfl, rfl, rfl, i1, i2, i3, hP, hnb, rfl, hgo⟩ := hrel
      have hPb : P ≤ 262144 := by rw [hP]; exact pow64 (by omega)
      have HP := hid hP
      have HGO := hid hgo
      have hk := HK.out
      clear hP hgo
      by_cases hlt : i < 4
      · by_cases hl : i < s.size
        · have hd := drop_at s i hl
          obtain ⟨y, hy⟩ : ∃ y, s[i] = y := ⟨_, rfl⟩
          have hy2 : s[i].toNat = y.toNat := by rw [hy]
          rw [hy] at hd
          have hy3 := u8_lt y
          have hgo := HGO.out
          rw [hd, show 4 - i = (4 - (i + 1)) + 1 by omega, Utf.go] at hgo
          by_cases hq : y.toNat < 128 ∨ 191 < y.toNat
          · have HE : Hid (r = false) := by rw [if_pos hq] at hgo; exact hgo.symm
            clear hgo hd hy
            by_cases hq1 : y.toNat < 128
            · have hq3 : (y.toNat : Int) - 128 < 0 := by omega
              go_wp2_with fail
              go_ret
              exact ⟨by rw [HE.out]; rfl, HN3.out⟩
            · have hq3 : ¬ (y.toNat : Int) - 128 < 0 := by omega
              have hq4 : (63 : Int) < (y.toNat : Int) - 128 := by omega
              go_wp2_with fail
              go_ret
              exact ⟨by rw [HE.out]; rfl, HN3.out⟩
          · have HE : Hid (Utf.go (s.data.toList.drop (i + 1)) (4 - (i + 1)) (64 * n + (y.toNat - 128)) 65536 1114112 = r) := by rw [if_neg hq] at hgo; exact hgo
            have HP2 : Hid (P * 64 = 64 ^ (i + 1 - 1)) := by show _ = _; rw [HP.out, ← Nat.pow_succ]; congr 1; omega
            obtain ⟨e, he⟩ : ∃ e, y.toNat - 128 = e := ⟨_, rfl⟩
            have he2 : (y.toNat : Int) - 128 = e := by omega
            have he3 : e ≤ 63 := by omega
            rw [he] at HE
            clear hgo hd hy he hq
            go_wp2_with fail
            go_roundg (4 - (i + 1))
            case measure => omega
            case rel => exact ⟨i + 1, 64 * n + e, P * 64, rfl, by go_num, by go_num, by omega, by omega, by omega, HP2.out, by omega, rfl, HE.out⟩
        · have hP2 : P ≤ 4096 := by
            rw [HP.out]
            have : (64 : Nat) ^ 2 = 4096 := by decide
            rw [← this]; exact Nat.pow_le_pow_right (by decide) (by omega)
          have HA : Hid (∀ w, Calls Try.prog 79 #[.int .i64 n, .int .i64 ((4 - i : Nat) : Int), .int .i64 65536, .int .i64 1114112] w fun e w' => e = .returned (.bool (clip (wide (4 - i) n n).1 (wide (4 - i) n n).2 65536 1114112)) ∧ w = w') := fun w => any3_any n (4 - i) 65536 1114112 w (by omega) (by omega) (by decide) (by decide) (by decide)
          have HE : Hid (clip (wide (4 - i) n n).1 (wide (4 - i) n n).2 65536 1114112 = r) := by
            have hgo := HGO.out
            have e : s.data.toList.drop i = [] := List.drop_eq_nil_of_le (by omega)
            rw [e, show 4 - i = (4 - (i + 1)) + 1 by omega, Utf.go] at hgo
            rw [show 4 - i = (4 - (i + 1)) + 1 by omega]
            exact hgo
          rw [HE.out] at HA
          have hsi : (4 : Int) - i = ((4 - i : Nat) : Int) := by omega
          have hsi2 : ((4 - i : Nat) : Int) ≤ 4 := by omega
          go_wp2_with fail
          with_reducible refine (HA.out _).mono ?_
          rintro e w' ⟨rfl, rfl⟩
          go_wp2_with fail
          go_ret
          exact ⟨rfl, HN3.out⟩
      · obtain rfl : i = 4 := by omega
        have HE : Hid ((decide (65536 ≤ n ∧ n < 1114112) && Utf.is n) = r) := by
          have hgo := HGO.out
          rw [Nat.sub_self, go_zero] at hgo
          exact hgo
        have HI := hid (fun w => Is_any n w (by omega))
        by_cases l1 : 65536 ≤ n
        · by_cases l2 : n < 1114112
          · rw [decide_eq_true ⟨l1, l2⟩, Bool.true_and] at HE
            rw [HE.out] at HI
            have k1 : (65536 : Int) ≤ n := by omega
            have k2 : (n : Int) < 1114112 := by omega
            clear l1 l2
            go_wp2_with fail
            refine (HI.out _).mono ?_
            rintro e w' ⟨rfl, rfl⟩
            go_wp2_with fail
            go_ret
            exact ⟨rfl, HN3.out⟩
          · rw [decide_eq_false (by omega : ¬ (65536 ≤ n ∧ n < 1114112)), Bool.false_and] at HE
            have k1 : (65536 : Int) ≤ n := by omega
            have k2 : ((n : Int) < 1114112) = False := eq_false (by omega)
            clear l1 l2
            go_wp2_with fail
            go_ret
            exact ⟨by rw [← HE.out]; rfl, HN3.out⟩
        · rw [decide_eq_false (by omega : ¬ (65536 ≤ n ∧ n < 1114112)), Bool.false_and] at HE
          go_wp2_with fail
          go_ret
          exact ⟨by rw [← HE.out]; rfl, HN3.out⟩
end Go.Proofs.Ytkfohickmdkplaa

namespace Go.Proofs.Ytkfohickmdkplaa
open Go.RowKit Go.Proofs.Own Go.Proofs.Utf
set_option maxRecDepth 100000
set_option maxHeartbeats 2000000

theorem need_sign {x : UInt8} {t : List UInt8} {q : Nat} (h : sign (x :: t) q = true) : need (x :: t) = if t.length < q then (q - t.length, true) else need (t.drop q) := by
  unfold sign at h
  dsimp only at h
  rw [need]
  cases hc : cls x.toNat with
  | none => rw [hc] at h; cases h
  | some p =>
    obtain ⟨m, lo, hi⟩ := p
    rw [hc] at h
    simp only [Bool.and_eq_true, decide_eq_true_eq] at h
    obtain ⟨rfl, h⟩ := h
    dsimp only
    rw [if_pos h]
theorem need_no {x : UInt8} {t : List UInt8} (h : ∀ q, q < 4 → sign (x :: t) q = false) : need (x :: t) = (0, false) := by
  rw [need]
  have h0 := h
  unfold sign at h
  dsimp only at h
  rcases cls_cases x.toNat with ⟨_, e⟩ | ⟨_, e⟩ | ⟨_, e⟩ | ⟨_, e⟩ | ⟨_, e⟩ | ⟨_, e⟩ | ⟨_, e⟩ | ⟨_, e⟩ | ⟨_, e⟩
  · have := h 0 (by omega)
    rw [e] at this
    simp only [decide_true, Bool.true_and] at this
    cases t <;> cases this
  · rw [e]
  · have := h 1 (by omega)
    rw [e] at this ⊢
    simp only [decide_true, Bool.true_and] at this
    dsimp only; rw [this]; rfl
  · have := h 2 (by omega)
    rw [e] at this ⊢
    simp only [decide_true, Bool.true_and] at this
    dsimp only; rw [this]; rfl
  · have := h 2 (by omega)
    rw [e] at this ⊢
    simp only [decide_true, Bool.true_and] at this
    dsimp only; rw [this]; rfl
  · have := h 2 (by omega)
    rw [e] at this ⊢
    simp only [decide_true, Bool.true_and] at this
    dsimp only; rw [this]; rfl
  · have := h 3 (by omega)
    rw [e] at this ⊢
    simp only [decide_true, Bool.true_and] at this
    dsimp only; rw [this]; rfl
  · have := h 3 (by omega)
    rw [e] at this ⊢
    simp only [decide_true, Bool.true_and] at this
    dsimp only; rw [this]; rfl
  · have := h 3 (by omega)
    rw [e] at this ⊢
    simp only [decide_true, Bool.true_and] at this
    dsimp only; rw [this]; rfl

theorem begins_any (s : ByteArray) (j : Nat) (w : World) (h1 : 1 ≤ j) (h4 : j ≤ 4) (hs0 : 0 < s.size) (hs : s.size ≤ 9223372036854775807) :
    Calls Try.prog 76 #[.string s, .int .i64 j] w fun e w' => e = .returned (.bool (sign s.data.toList (j - 1))) ∧ New w w' := by
  have : j = 1 ∨ j = 2 ∨ j = 3 ∨ j = 4 := by omega
  rcases this with rfl | rfl | rfl | rfl
  · exact begins1_any s w hs0 hs
  · exact begins2_any s w hs0 hs
  · exact begins3_any s w hs0 hs
  · exact begins4_any s w hs0 hs

theorem sub_list (s : ByteArray) (k : Nat) : (s.extract k s.size).data.toList = s.data.toList.drop k ∧ (s.extract k s.size).size = s.size - k := by
  constructor
  · simp only [ByteArray.data_extract, Array.toList_extract, List.extract_eq_take_drop]
    exact List.take_of_length_le (by simp)
  · simp

theorem rNeed_any (s : ByteArray) (w : World) (hs : s.size ≤ 1000000000) :
    Calls Try.prog 65 #[.string s] w fun e w' => e = .returned (.tuple #[.int .i64 (need s.data.toList).1, .bool (need s.data.toList).2]) ∧ New w w' := by
  obtain ⟨r, hr⟩ : ∃ r, need s.data.toList = r := ⟨_, rfl⟩
  rw [hr]
  have HR := hid hr
  have hlen : s.data.toList.length = s.size := by simp
  have HLEN := hid hlen
  clear hr hlen
  go_enter Try.func65, Try.ntmps65
  go_wp2_with fail
  go_loopg [4, 5, 6] s.size (fun k a _ _ wr => ∃ i : Nat, k = s.size - i ∧ a = .int .i64 i ∧ i ≤ s.size ∧ New w wr ∧ need (s.data.toList.drop i) = r)
  case atStart => exact ⟨0, by simp, rfl, Nat.zero_le _, Upd.refl _ _, HR.out⟩
  case round =>
    obtain ⟨i, rfl, rfl, hi, hw, hn⟩ := hrel
    obtain ⟨wo, rfl⟩ : ∃ wo : World, wo = wr := ⟨_, rfl⟩
    have HN := hid hn
    have HW := hid hw
    clear hn hw
    by_cases hlt : i < s.size
    · have hd := drop_at s i hlt
      obtain ⟨x, hx⟩ : ∃ x, s[i] = x := ⟨_, rfl⟩
      rw [hx] at hd
      obtain ⟨t, ht⟩ : ∃ t, s.data.toList.drop (i + 1) = t := ⟨_, rfl⟩
      have htl : t.length = s.size - (i + 1) := by rw [← ht, List.length_drop, HLEN.out]
      rw [ht] at hd
      have HD := hid hd
      have HTL := hid htl
      have HDQ : Hid (∀ q, t.drop q = s.data.toList.drop (i + q + 1)) := by
        intro q
        rw [← ht, List.drop_drop]
        congr 1; omega
      have hn2 := HN.out
      rw [hd] at hn2
      have HN2 := hid hn2
      have hsub := sub_list s i
      have HB := hid (fun j w (h1 : 1 ≤ j) (h4 : j ≤ 4) => begins_any (s.extract i s.size) j w h1 h4 (by rw [hsub.2]; omega) (by rw [hsub.2]; omega))
      rw [hsub.1, hd] at HB
      clear hsub hn2 hd hx ht htl
      go_wp2_with fail
      go_loopg [2, 3, 4, 5, 6] 4 (fun k _ _ a b c wr => ∃ j : Nat, k = 5 - j ∧ c = .int .i64 j ∧ 1 ≤ j ∧ j ≤ 5 ∧ New w wr ∧ ((a = .int .i64 i ∧ b = .bool false ∧ ∀ q, q + 1 < j → sign (x :: t) q = false) ∨
        (∃ i' : Nat, a = .int .i64 i' ∧ b = .bool true ∧ i < i' ∧ i' ≤ s.size ∧ need (s.data.toList.drop i') = r)))
      case atStart => exact ⟨1, rfl, rfl, by omega, by omega, HW.out, .inl ⟨rfl, rfl, fun q h => by omega⟩⟩
      case round =>
        obtain ⟨j, rfl, rfl, j1, j5, hw, hcase⟩ := hrel
        obtain ⟨wp, rfl⟩ : ∃ wp : World, wp = wr := ⟨_, rfl⟩
        have HWP := hid hw
        clear hw
        rcases hcase with ⟨rfl, rfl, hno⟩ | ⟨i', rfl, rfl, hi1, hi2, hneed⟩
        · have HNO := hid hno
          clear hno
          by_cases hj : j ≤ 4
          · have HB1 := hid (HB.out j wp j1 hj)
            obtain ⟨b, hb⟩ : ∃ b, sign (x :: t) (j - 1) = b := ⟨_, rfl⟩
            rw [hb] at HB1
            have HSB := hid hb
            clear hb
            go_wp2_with fail
            refine HB1.out.mono ?_
            rintro e wq ⟨rfl, hnq⟩
            have HNQ := hid (New.trans HWP.out hnq)
            clear hnq
            cases b with
            | false =>
              have HNO2 : Hid (∀ q, q + 1 < j + 1 → sign (x :: t) q = false) := fun q hq => by
                rcases Nat.lt_or_ge (q + 1) j with h | h
                · exact HNO.out q h
                · obtain rfl : q = j - 1 := by omega
                  exact HSB.out
              go_wp2_with fail
              go_roundg (5 - (j + 1))
              case measure => omega
              case rel => exact ⟨j + 1, rfl, by go_num, by omega, by omega, HNQ.out, .inl ⟨rfl, rfl, HNO2.out⟩⟩
            | true =>
              have hns := need_sign HSB.out
              rw [HN2.out, HTL.out, HDQ.out] at hns
              by_cases hov : s.size < i + j
              · have HE : Hid (r = (i + j - s.size, true)) := by
                  rw [if_pos (by omega)] at hns
                  show _ = _
                  rw [hns]
                  congr 1; omega
                have hov2 : (s.size : Int) < i + j := by omega
                have hsb : (i : Int) + j - s.size = ((i + j - s.size : Nat) : Int) := by omega
                clear hns
                go_wp2_with fail
                go_ret2
                exact ⟨by rw [HE.out]; rfl, HNQ.out⟩
              · have HE : Hid (need (s.data.toList.drop (i + j)) = r) := by
                  rw [if_neg (by omega), show i + (j - 1) + 1 = i + j by omega] at hns
                  exact hns.symm
                have hov2 : ¬ (s.size : Int) < i + j := by omega
                clear hns
                go_wp2_with fail
                go_roundg (5 - (j + 1))
                case measure => omega
                case rel => exact ⟨j + 1, rfl, by go_num, by omega, by omega, HNQ.out, .inr ⟨i + j, by go_num, rfl, by omega, by omega, HE.out⟩⟩
          · have HE : Hid (r = (0, false)) := HN2.out.symm.trans (need_no fun q hq => HNO.out q (by omega))
            have hj2 : ¬ (j : Int) ≤ 4 := by omega
            go_wp2_with fail
            go_ret2
            exact ⟨by rw [HE.out]; rfl, HWP.out⟩
        · have HE := hid hneed
          clear hneed
          go_wp2_with fail
          all_goals
            go_roundg (s.size - i')
            case measure => omega
            case rel => exact ⟨i', rfl, rfl, by omega, HWP.out, HE.out⟩
    · have HE : Hid (r = (0, true)) := by
        have e : s.data.toList.drop i = [] := List.drop_eq_nil_of_le (by rw [HLEN.out]; omega)
        have := HN.out
        rw [e, need] at this
        exact this.symm
      go_wp2_with fail
      go_ret2
      exact ⟨by rw [HE.out]; rfl, HW.out⟩
end Go.Proofs.Ytkfohickmdkplaa

namespace Go.Proofs.Ytkfohickmdkplaa
open Go.RowKit Go.Proofs.Leb Go.Proofs.Own Go.Proofs.Cur Go.Proofs.Utf
set_option maxRecDepth 100000
set_option maxHeartbeats 4000000

/-- a text, whichever sizes may stand -/
noncomputable def nameS (bs : List UInt8) (lim : Int) (S : Int → Nat → Prop) (p : Nat) : Out (List UInt8) :=
  (uintO bs lim S p).bind fun ds q => (nameL bs lim (val ds) [] q).bind fun _ q' => .ok ((bs.drop q).take (val ds)) q'
/-- of how many bytes a text may be -/
def lenW (b1 b2 : Int) : Wnt := ⟨1, 0, 0, 1, 1, 0, 0, b1, b2, []⟩
theorem lenW_ok (b1 b2 : Int) (w : World) (hb : Span.right b1 b2) (h2 : b2 ≤ 9223372036854775807) : WantOk (lenW b1 b2) (.slice none 0 0) w :=
  ⟨⟨(by decide : (0 : Nat) < 18446744073709551616), (by decide : (0 : Nat) < 18446744073709551616), fun _ => by unfold lenW Span.item Span.right; simp only; omega, (fun h => by unfold lenW at h; simp at h), fun _ => hb, ⟨by unfold lenW; simp, by unfold lenW; simp, h2⟩⟩,
    .inr (.inl rfl), ⟨none, 0, rfl, Nat.le_refl _, fun _ => rfl, fun h => absurd rfl h⟩, Nat.zero_le _, (fun y hy => by unfold lenW at hy; simp at hy), (fun y hy => by unfold lenW at hy; simp at hy)⟩
theorem nameL_next {bs : List UInt8} {lim : Int} {k : Nat} {cur : List UInt8} {p : Nat} : (∀ q er, nextO bs lim p = .up q er → nameL bs lim (k + 1) cur p = .up q er) ∧
    (∀ x q, nextO bs lim p = .ok x q → (mayN (k + 1) cur x 0 → nameL bs lim (k + 1) cur p = nameL bs lim k (if (need (cur ++ [x])).1 = 0 then [] else cur ++ [x]) q) ∧ (¬ mayN (k + 1) cur x 0 → nameL bs lim (k + 1) cur p = .up p 2)) := by
  have hm : ∀ x r, mayN (k + 1) cur x r = mayN (k + 1) cur x 0 := fun _ _ => rfl
  constructor
  · intro q er h
    rw [nameL_step, byte_next, h]; rfl
  · intro x q h
    constructor
    · intro hy
      rw [nameL_step, byte_next, h]
      simp only
      rw [if_pos (by rw [hm]; exact hy)]; rfl
    · intro hy
      rw [nameL_step, byte_next, h]
      simp only
      rw [if_neg (by rw [hm]; exact hy)]; rfl

theorem byteO_er {bs : List UInt8} {lim : Int} {may : UInt8 → Int → Prop} {p q er : Nat} (h : byteO bs lim may p = .up q er) : er ≠ 0 := by
  unfold byteO at h
  split at h
  · cases h; decide
  · split at h
    · split at h
      · cases h
      · cases h; decide
    · cases h; decide
theorem numO_er {bs : List UInt8} {lim : Int} {may : List UInt8 → UInt8 → Int → Prop} : ∀ {n : Nat} {ds : List UInt8} {p q er : Nat}, numO bs lim may n ds p = .up q er → er ≠ 0
  | 0, _, _, _, _, h => by cases h; decide
  | n + 1, ds, p, q, er, h => by
    rw [numO_step] at h
    cases hb : byteO bs lim (may ds) p with
    | up q' e' => rw [hb] at h; cases h; exact byteO_er hb
    | ok x q' =>
      rw [hb] at h
      simp only [Out.bind] at h
      split at h
      · cases h
      · exact numO_er h
structure TInv (R : Nat) (B : ByteArray) (lim : Int) (q0 n : Nat) (L : Out Unit) (w : World) (i s k : Nat) (A : ByteArray) (wr : World) : Prop where
  up : Upd (· = R) w wr
  sz : A.size = i
  si : s ≤ i
  st : (Rdr wr R B (q0 + i) lim 0 0 ∧ Inv B.size lim (q0 + i) ∧ i ≤ n ∧ A = ⟨((B.data.toList.drop q0).take i).toArray⟩ ∧ k = n - i + 1 ∧ nameL B.data.toList lim (n - i) (A.data.toList.drop s) (q0 + i) = L) ∨
    (∃ p' er sp, er ≠ 0 ∧ Rdr wr R B p' lim er sp ∧ L = .up sp er ∧ k = 0 ∧ i ≤ n)

theorem rName_any {w : World} {R : Nat} {B : ByteArray} {p : Nat} {lim : Int} (h : Rdr w R B p lim 0 0) (hi : Inv B.size lim p) (b1 b2 : Int) (hb : Span.right b1 b2) (hb2 : b2 ≤ 9223372036854775807) :
    Calls Try.prog 35 #[.pointer (some ⟨R, 0, none⟩), .agg #[.int .i64 b1, .int .i64 b2]] w (RGot R B lim strV (nameS B.data.toList lim (lenW b1 b2).may p) w) := by
  have HI := hid hi
  have il := hi.len
  have hR := h.lt
  obtain ⟨O, hO⟩ : ∃ O, nameS B.data.toList lim (lenW b1 b2).may p = O := ⟨_, rfl⟩
  have HO := hid hO
  rw [hO]
  have hn0 : New w ((w.alloc (.cells #[.int .i64 b1, .int .i64 b2] 44)).alloc (.cells #[.int .i64 1, .int .i64 1] 44)) := ((Upd.refl _ _).alloc _).alloc _
  have HU := hid (rUint_any (h.new hn0) hi (lenW b1 b2) (.slice none 0 0) (lenW_ok b1 b2 _ hb hb2) (fun _ k hk => by cases hk))
  have HN0 := hid hn0
  have HL := hid (size_list B)
  clear hi h hO hn0 hb hb2
  go_enter Try.func35, Try.ntmps35
  go_wp2_with fail
  refine HU.out.mono ?_
  rintro e w1 ⟨hu1, hm1⟩
  have U1 := hid (new_upd HN0.out hu1 hR)
  cases ho : uintO B.data.toList lim (lenW b1 b2).may p with
  | up q er =>
    rw [ho] at hm1
    obtain ⟨a, p', rfl, hr1⟩ := hm1
    have HO1 : Hid (O = .up q er) := by show _ = _; rw [← HO.out]; unfold nameS; rw [ho]; rfl
    have hne := numO_er ho
    have c3 := hr1.c3
    have hb : ((er : Int) == 0) = false := by rw [beq_eq_false_iff_ne]; omega
    have HR1 := hid hr1
    unfold UintV
    have hn32 : val a % 4294967296 < 4294967296 := Nat.mod_lt _ (by decide)
    generalize val a % 4294967296 = n' at *
    clear ho hr1 hu1 hne
    go_wp2_with fail
    refine wp_loop_rounds 1 ?_
    rw [rounds_succ]
    by_cases hn : 0 < n'
    all_goals
      go_wp2_with fail
      go_ret
      exact RGot.mk_up [] HO1.out U1.out rfl HR1.out
  | ok ds q0 =>
    rw [ho] at hm1
    obtain ⟨rfl, hr1⟩ := hm1
    obtain ⟨-, hlt, hiq, -, -⟩ := uintO_ok ho
    rw [HL.out] at hiq
    have HIQ := hid (hiq HI.out)
    obtain ⟨n, hn⟩ : ∃ n, val ds = n := ⟨_, rfl⟩
    rw [hn] at hlt
    obtain ⟨L, hL⟩ : ∃ L, nameL B.data.toList lim n [] q0 = L := ⟨_, rfl⟩
    have HO1 : Hid (O = L.bind fun _ q' => .ok ((B.data.toList.drop q0).take n) q') := by
      show _ = _; rw [← HO.out]; unfold nameS; rw [ho]; simp only [Out.bind]; rw [hn, hL]
    have HV : UintV ds = .int .u32 n := by unfold UintV; rw [hn, Nat.mod_eq_of_lt hlt]
    rw [HV]
    have i0 : TInv R B lim q0 n L w 0 0 (n + 1) ⟨#[]⟩ w1 := ⟨U1.out, rfl, Nat.le_refl _, .inl ⟨hr1, HIQ.out, Nat.zero_le _, by simp, rfl, by simpa using hL⟩⟩
    have I0 := hid i0
    have HLL := hid hL
    clear ho hr1 hu1 hiq hn hL HV i0
    go_wp2_with fail
    go_loopg [7, 8, 9, 10, 11] (n + 1) (fun k a b _ _ _ wr => ∃ (i s : Nat) (A : ByteArray), a = .string A ∧ b = .int .i64 s ∧ TInv R B lim q0 n L w i s k A wr)
    case atStart => exact ⟨0, 0, ⟨#[]⟩, rfl, rfl, I0.out⟩
    case round =>
      obtain ⟨i, s, A, rfl, rfl, hinv⟩ := hrel
      have IR := hid hinv
      have hsz := hinv.sz
      have hsi := hinv.si
      clear hinv I0
      rcases IR.out.st with ⟨hq, hiq, hin, hA, hk, hnm⟩ | ⟨p', er, sp, he, hr, ho, hk, hib⟩
      · obtain ⟨q1, hq1⟩ : ∃ q1, q0 + i = q1 := ⟨_, rfl⟩
        rw [hq1] at hq hiq hnm
        have HQ1 := hid hq1
        have HIQ2 := hid hiq
        have HA := hid hA
        have HK := hid hk
        have HNM := hid hnm
        have c3 := hq.c3
        have hbl := hiq.len
        have hpl0 := hiq.place
        by_cases hlt : i < n
        · have hlti : (A.size : Int) < (n : Int) := by omega
          obtain ⟨k', hk'⟩ : ∃ k', n - i = k' + 1 := ⟨n - i - 1, by omega⟩
          obtain ⟨cur, hcur⟩ : ∃ cur, A.data.toList.drop s = cur := ⟨_, rfl⟩
          rw [hk', hcur] at hnm
          have HNX := hid (rNext_any hq hiq)
          have NX := hid (nameL_next (bs := B.data.toList) (lim := lim) (k := k') (cur := cur) (p := q1))
          have HNM2 := hid hnm
          have HKP := hid hk'
          have HCUR := hid hcur
          clear hq hiq hA hk hin hnm hk' hcur hq1
          go_wp2_with fail
          refine HNX.out.mono ?_
          rintro e w2 ⟨hu2, hm2⟩
          have U2 := hid (IR.out.up.trans hu2 (fun _ _ h => h))
          cases ho : nextO B.data.toList lim q1 with
          | up q' er =>
            rw [ho] at hm2
            obtain ⟨a, p', rfl, hr2⟩ := hm2
            have hne := nextO_er ho
            have HOU : Hid (O = .up q' er) := by
              show _ = _
              have := NX.out.1 _ _ ho
              rw [HNM2.out] at this
              rw [HO1.out, this]; rfl
            have c3 := hr2.c3
            have hb : ((er : Int) != 0) = true := by rw [bne_iff_ne]; omega
            have HR2 := hid hr2
            clear ho hr2 hu2 hne
            unfold cb
            go_wp2_with fail
            go_ret
            exact RGot.mk_up [] HOU.out U2.out rfl HR2.out
          | ok b q' =>
            rw [ho] at hm2
            obtain ⟨rfl, hr2⟩ := hm2
            have hno := nextO_ok ho
            have NXB := hid (NX.out.2 _ _ ho)
            obtain ⟨hq2, hpl, hr0⟩ := hno
            have hbx : b = (B.data.toList)[q1] := by
              unfold nextO at ho
              rw [if_neg hr0, dif_pos hpl] at ho
              cases ho; rfl
            rw [HL.out] at hpl
            have HBX : Hid (B.data.toList[q1]? = some b) := by
              show _ = _
              rw [hbx]; exact List.getElem?_eq_getElem _
            have hiq3 := HIQ2.out.next hr0 hpl
            rw [← hq2] at hiq3
            have HIQ3 := hid hiq3
            have HQ2 := hid hq2
            have HR2 := hid hr2
            have hcv := conv1 w2 b
            have hn3 := (Upd.refl (fun _ => False) w2).alloc (.cells #[.int .u8 b.toNat] 5)
            have H3 := hid (HR2.out.new hn3)
            have U3 := hid (U2.out.thenNew hn3)
            have c3 := hr2.c3
            clear ho hr2 hu2 hbx hr0 hq2 hiq3
            unfold cb
            generalize hB1 : (⟨[b].toArray⟩ : ByteArray) = B1 at *
            have hB1s : B1.size = 1 := by rw [← hB1]; rfl
            have hsz1 : ¬ 9223372036854775807 < A.size + B1.size := by omega
            obtain ⟨A2, hA2⟩ : ∃ A2, A ++ B1 = A2 := ⟨_, rfl⟩
            have hA2s : A2.size = i + 1 := by rw [← hA2, ByteArray.size_append, hsz, hB1s]
            have hA2l : A2.data.toList = A.data.toList ++ [b] := by
              rw [← hA2, ← hB1]
              simp
            have HSUB := hid (sub_list A2 s)
            have hdrop : A2.data.toList.drop s = cur ++ [b] := by
              rw [hA2l, List.drop_append_of_le_length (by rw [size_list]; omega), HCUR.out]
            have HND := hid (fun W => rNeed_any (A2.extract s A2.size) W (by have := HQ1.out; rw [HSUB.out.2]; omega))
            rw [HSUB.out.1, hdrop] at HND
            obtain ⟨m, hm⟩ : ∃ m, (need (cur ++ [b])).1 = m := ⟨_, rfl⟩
            obtain ⟨ok, hok⟩ : ∃ ok, (need (cur ++ [b])).2 = ok := ⟨_, rfl⟩
            have HMN : Hid (mayN (k' + 1) cur b 0 ↔ ok = true ∧ m < k' + 1) := by show _ ↔ _; unfold mayN; rw [hm, hok]
            rw [hm, hok] at HND
            rw [hm] at NXB
            have hsl : (s : Int) ≤ (A2.size : Int) := by omega
            have HA2L := hid hA2l
            have HA2S := hid hA2s
            have HDR := hid hdrop
            have HAA := hid (show A2 = ⟨((B.data.toList.drop q0).take (i + 1)).toArray⟩ from by
              rw [← hA2, ← hB1, HA.out, st_cat2]
              congr 2
              rw [List.take_add_one, List.getElem?_drop, HQ1.out, HBX.out]
              rfl)
            have hA2b : A2.size ≤ 4294967296 := by omega
            clear hm hok hA2l hdrop hB1 hA2s
            have hn3' := hid hn3
            clear hn3
            go_wp2_with fail
            generalize w2.alloc (.cells #[.int .u8 b.toNat] 5) = w3 at *
            refine (HND.out _).mono ?_
            rintro e w4 ⟨rfl, hn4⟩
            have h4 := H3.out.new hn4
            have H4 := hid h4
            have U4 := hid (U3.out.thenNew hn4)
            have c1 := h4.c1
            have hps : (q' : Int) - 1 = (q1 : Int) := by have := HQ2.out; omega
            have hqb : q' ≤ 1000000001 := by have := HQ2.out; omega
            have hkk : (m : Int) ≤ (n : Int) - (A2.size : Int) ↔ m < k' + 1 := by have := HKP.out; have := HA2S.out; omega
            have HKK := hid hkk
            have m3 : m ≤ 4294967296 ∨ True := .inr trivial
            clear hn4 h4 hcv hkk m3
            have fin : ∀ w5 (c : Bool), Rdr w5 R B q' lim (if c then 0 else 2) (if c then 0 else q1) → Upd (· = R) w w5 → (c = true ↔ mayN (k' + 1) cur b 0) → ∀ s', (s' = if m = 0 then i + 1 else s) →
                ∃ kk, kk < n - i + 1 ∧ TInv R B lim q0 n L w (i + 1) s' kk A2 w5 := by
              intro w5 c h5 u5 hc s' hs'
              cases c with
              | true =>
                have hm := NXB.out.1 (hc.1 rfl)
                rw [HNM2.out] at hm
                refine ⟨n - (i + 1) + 1, by omega, u5, HA2S.out, by rw [hs']; split <;> omega, .inl ⟨?_, ?_, hlt, HAA.out, rfl, ?_⟩⟩
                · rw [show q0 + (i + 1) = q' by have := HQ1.out; have := HQ2.out; omega]; exact h5
                · rw [show q0 + (i + 1) = q' by have := HQ1.out; have := HQ2.out; omega]; exact HIQ3.out
                · rw [show q0 + (i + 1) = q' by have := HQ1.out; have := HQ2.out; omega, show n - (i + 1) = k' by have := HKP.out; omega, hm, hs']
                  by_cases hz : m = 0
                  · rw [if_pos hz, if_pos hz]
                    congr 1
                    rw [List.drop_eq_nil_iff, size_list, HA2S.out]
                    exact Nat.le_refl _
                  · rw [if_neg hz, if_neg hz, HDR.out]
              | false =>
                have hm := NXB.out.2 (fun h => by have := hc.2 h; simp at this)
                rw [HNM2.out] at hm
                exact ⟨0, by omega, u5, HA2S.out, by rw [hs']; split <;> omega, .inr ⟨q', 2, q1, by decide, h5, hm, rfl, by omega⟩⟩
            have FIN := hid fin
            clear fin
            by_cases hz : m = 0
            · have hzb : ((m : Int) == 0) = true := by rw [beq_iff_eq]; omega
              have hA2i : (A2.size : Int) = ((i + 1 : Nat) : Int) := by have := HA2S.out; omega
              have HA2I := hid hA2i
              have HZ := hid hz
              clear hz hA2i
              cases ok with
              | false =>
                have HND2 := hid (rNeed_any' H4.out false q1)
                go_wp2_with fail
                refine HND2.out.mono ?_
                rintro e w5 ⟨rfl, h5, u5⟩
                obtain ⟨kk, hkk, hT⟩ := FIN.out w5 false h5 (U4.out.trans u5 (fun _ _ h => h)) (by rw [HMN.out]; simp) (i + 1) (by rw [if_pos HZ.out])
                have HT := hid hT
                clear h5 u5 hT
                go_wp2_with fail
                go_roundg kk
                case measure => rw [HK.out]; exact hkk
                case rel => exact ⟨i + 1, i + 1, A2, rfl, by rw [HA2I.out], HT.out⟩
              | true =>
                have hlm : (m : Int) ≤ (n : Int) - (A2.size : Int) := HKK.out.2 (by have := HZ.out; omega)
                have HND2 := hid (rNeed_any' H4.out true q1)
                go_wp2_with fail
                refine HND2.out.mono ?_
                rintro e w5 ⟨rfl, h5, u5⟩
                obtain ⟨kk, hkk, hT⟩ := FIN.out w5 true h5 (U4.out.trans u5 (fun _ _ h => h)) (by rw [HMN.out]; simp; have := HZ.out; omega) (i + 1) (by rw [if_pos HZ.out])
                have HT := hid hT
                clear h5 u5 hT
                go_wp2_with fail
                go_roundg kk
                case measure => rw [HK.out]; exact hkk
                case rel => exact ⟨i + 1, i + 1, A2, rfl, by rw [HA2I.out], HT.out⟩
            · have hzb : ((m : Int) == 0) = false := by rw [beq_eq_false_iff_ne]; omega
              have HZ := hid hz
              clear hz
              cases ok with
              | false =>
                have HND2 := hid (rNeed_any' H4.out false q1)
                go_wp2_with fail
                refine HND2.out.mono ?_
                rintro e w5 ⟨rfl, h5, u5⟩
                obtain ⟨kk, hkk, hT⟩ := FIN.out w5 false h5 (U4.out.trans u5 (fun _ _ h => h)) (by rw [HMN.out]; simp) s (by rw [if_neg HZ.out])
                have HT := hid hT
                clear h5 u5 hT
                go_wp2_with fail
                go_roundg kk
                case measure => rw [HK.out]; exact hkk
                case rel => exact ⟨i + 1, s, A2, rfl, rfl, HT.out⟩
              | true =>
                by_cases hml : m < k' + 1
                · have hlm : (m : Int) ≤ (n : Int) - (A2.size : Int) := HKK.out.2 hml
                  have HND2 := hid (rNeed_any' H4.out true q1)
                  have HML := hid hml
                  go_wp2_with fail
                  refine HND2.out.mono ?_
                  rintro e w5 ⟨rfl, h5, u5⟩
                  obtain ⟨kk, hkk, hT⟩ := FIN.out w5 true h5 (U4.out.trans u5 (fun _ _ h => h)) (by rw [HMN.out]; simp; have := HML.out; omega) s (by rw [if_neg HZ.out])
                  have HT := hid hT
                  clear h5 u5 hT
                  go_wp2_with fail
                  go_roundg kk
                  case measure => rw [HK.out]; exact hkk
                  case rel => exact ⟨i + 1, s, A2, rfl, rfl, HT.out⟩
                · have hlm : ¬ (m : Int) ≤ (n : Int) - (A2.size : Int) := fun h => hml (HKK.out.1 h)
                  have hld : decide ((m : Int) ≤ (n : Int) - (A2.size : Int)) = false := decide_eq_false hlm
                  clear hlm
                  have HND2 := hid (rNeed_any' H4.out false q1)
                  have HML := hid hml
                  go_wp2_with fail
                  refine HND2.out.mono ?_
                  rintro e w5 ⟨rfl, h5, u5⟩
                  obtain ⟨kk, hkk, hT⟩ := FIN.out w5 false h5 (U4.out.trans u5 (fun _ _ h => h)) (by rw [HMN.out]; simp; have := HML.out; omega) s (by rw [if_neg HZ.out])
                  have HT := hid hT
                  clear h5 u5 hT
                  go_wp2_with fail
                  go_roundg kk
                  case measure => rw [HK.out]; exact hkk
                  case rel => exact ⟨i + 1, s, A2, rfl, rfl, HT.out⟩
        · obtain rfl : i = n := by omega
          have HLK : Hid (L = .ok () q1) := by show _ = _; rw [← HNM.out, Nat.sub_self]; rfl
          have HO5 : Hid (O = .ok ((B.data.toList.drop q0).take i) q1) := by
            show _ = _
            rw [HO1.out, HLK.out]; rfl
          have hlti : ¬ (A.size : Int) < (i : Int) := by omega
          have HQ := hid hq
          clear hq hiq hA hk hnm hin hq1
          go_wp2_with fail
          go_ret
          refine RGot.mk_ok HO5.out IR.out.up ?_ HQ.out
          unfold strV
          rw [← HA.out]
          rfl
      · have HE := hid he
        have HR := hid hr
        have HO2 : Hid (O = .up sp er) := by show _ = _; rw [HO1.out, ho]; rfl
        have c3 := hr.c3
        have hb : ((er : Int) == 0) = false := by rw [beq_eq_false_iff_ne]; omega
        clear he hr ho
        by_cases hlt : i < n
        all_goals
          first | (have hlti : (A.size : Int) < (n : Int) := by omega) | (have hlti : ¬ (A.size : Int) < (n : Int) := by omega)
          go_wp2_with fail
          go_ret
          exact RGot.mk_up (A.data.toList) HO2.out IR.out.up (by unfold strV; rfl) HR.out
end Go.Proofs.Ytkfohickmdkplaa

namespace Go.Proofs.Ytkfohickmdkplaa
open Go.RowKit Go.Proofs.Leb Go.Proofs.Own Go.Proofs.Cur
set_option maxRecDepth 100000
set_option maxHeartbeats 2000000

theorem rNew_any (B : ByteArray) (w : World) :
    Calls Try.prog 9 #[.string B] w fun e w' => e = .returned (.pointer (some ⟨w.heap.size, 0, none⟩)) ∧ New w w' ∧ Rdr w' w.heap.size B 0 (-1) 0 0 := by
  go_enter Try.func9, Try.ntmps9
  go_wp2_with fail
  go_ret
  exact ⟨rfl, (Upd.refl _ _).alloc _, hp_new rfl⟩

theorem At_any {w : World} {C : Nat} {v : Value} {bs : List UInt8} {p : Nat} {lim : Int} {er : Nat} (h : Cur w C v bs p lim er) :
    Calls Try.prog 29 #[.pointer (some ⟨C, 0, none⟩)] w fun e w' => e = .returned (.int .i64 p) ∧ w = w' := by
  have c1 := h.c1
  go_enter Try.func29, Try.ntmps29
  go_wp2_with fail
  go_ret
  exact ⟨rfl, rfl⟩

/-- a number's bytes, the least first -/
def numL (n i : Nat) : List UInt8 := (List.range i).map fun j => UInt8.ofNat (n / 2 ^ (8 * j))
def numV (n : Nat) : Value := .string ⟨(numL n 8).toArray⟩
theorem numL_succ (n i : Nat) : numL n (i + 1) = numL n i ++ [UInt8.ofNat (n / 2 ^ (8 * i))] := by
  unfold numL
  rw [List.range_succ, List.map_append]
  rfl

theorem number_any (n : Nat) (hn : n < 18446744073709551616) (w : World) :
    Calls Try.prog 20 #[.int .u64 n] w fun e w' => e = .returned (numV n) ∧ New w w' := by
  have HNN := hid hn
  clear hn
  go_enter Try.func20, Try.ntmps20
  go_wp2_with fail
  go_loopg [3, 4] 8 (fun k s a wr => ∃ i : Nat, k = 8 - i ∧ i ≤ 8 ∧ s = .string ⟨(numL n i).toArray⟩ ∧ a = .int .i64 i ∧ New w wr)
  case atStart => exact ⟨0, rfl, by omega, rfl, rfl, Upd.refl _ _⟩
  case round =>
    obtain ⟨i, rfl, hi, rfl, rfl, hw⟩ := hrel
    have HW := hid hw
    clear hw
    by_cases h8 : (i : Int) < 8
    · obtain ⟨x, hx⟩ : ∃ x, UInt8.ofNat (n / 2 ^ (8 * i)) = x := ⟨_, rfl⟩
      have HX := hid hx
      have hcv := conv1 wr x
      have hs : ((n : Int) / 2 ^ (8 * i)) % 256 = (x.toNat : Int) := by
        rw [← hx]
        simp only [UInt8.toNat_ofNat']
        push_cast
        rfl
      have HSZ := hid (show (numL n i).length = i by simp [numL])
      clear hx
      obtain ⟨A, hA⟩ : ∃ A : ByteArray, (⟨(numL n i).toArray⟩ : ByteArray) = A := ⟨_, rfl⟩
      have HA := hid hA
      have hsz1 : ¬ 9223372036854775807 < A.size + (⟨[x].toArray⟩ : ByteArray).size := by
        have h1 : (⟨[x].toArray⟩ : ByteArray).size = 1 := rfl
        have h2 : A.size = i := by rw [← hA]; exact HSZ.out
        omega
      rw [hA]
      clear hA
      go_wp2_with fail
      go_roundg (8 - (i + 1))
      case measure => omega
      case rel =>
        refine ⟨i + 1, rfl, by omega, ?_, by go_num, HW.out.alloc _⟩
        rw [numL_succ, HX.out, ← st_cat2, HA.out]
    · obtain rfl : i = 8 := by omega
      go_wp2_with fail
      go_ret
      exact ⟨rfl, HW.out⟩
end Go.Proofs.Ytkfohickmdkplaa

namespace Go.Proofs.Ytkfohickmdkplaa
open Go.RowKit Go.Proofs.Own Go.Proofs.Span
set_option maxRecDepth 100000
set_option maxHeartbeats 1600000

def pc (p : Nat × Nat) : List Value := [.int .u64 p.1, .int .u64 p.2]
/-- v is a row of ranges that the call owns -/
def Pairs (w : World) (v : Value) (rs : List (Nat × Nat)) : Prop := w.ownsRow 0 87 2 v rs.length (rs.flatMap pc)
theorem Pairs.new {w w' : World} {v : Value} {rs : List (Nat × Nat)} (h : Pairs w v rs) (hu : New w w') : Pairs w' v rs := ownsRow_new h hu
theorem Pairs.nil (w : World) : Pairs w (.slice none 0 0) [] := World.ownsRow_nil w 0 _ 2
theorem pc_at : ∀ (rs : List (Nat × Nat)) (i : Nat) (h : i < rs.length), (rs.flatMap pc)[i * 2]? = some (.int .u64 rs[i].1) ∧ (rs.flatMap pc)[i * 2 + 1]? = some (.int .u64 rs[i].2)
  | [], i, h => absurd h (Nat.not_lt_zero _)
  | p :: t, 0, _ => ⟨rfl, rfl⟩
  | p :: t, i + 1, h => by
    have := pc_at t i (by simpa using h)
    simpa [pc, Nat.add_mul, List.getElem?_cons] using this
theorem Pairs.shape {w : World} {v : Value} {rs : List (Nat × Nat)} (h : Pairs w v rs) : ∃ a cap, v = .slice a rs.length cap := by
  rcases h.2 with ⟨rfl, hn⟩ | ⟨g, cap, cur, rfl, _⟩
  · exact ⟨none, 0, by rw [hn]⟩
  · exact ⟨_, cap, rfl⟩
theorem Pairs.rdp {w : World} {v : Value} {rs : List (Nat × Nat)} (h : Pairs w v rs) : RdP w v rs := by
  have h0 := h
  obtain ⟨h1, h2⟩ := h
  rcases h2 with ⟨rfl, hn⟩ | ⟨g, cap, cur, rfl, _, hg, hn, hm, hs, ht⟩
  · have : rs = [] := List.eq_nil_of_length_eq_zero hn
    subst this
    exact ⟨none, 0, rfl, Nat.le_refl _, fun _ => rfl, fun h => absurd rfl h⟩
  · refine ⟨_, cap, rfl, hn, (fun h => by cases h), fun _ => ⟨g, 0, rfl, fun i hi => ?_⟩⟩
    have c := pc_at rs i hi
    have k0 := World.ownsRow.cells (g := g) h0 rfl _ _ c.1
    have k1 := World.ownsRow.cells (g := g) h0 rfl _ _ c.2
    rw [Addr.add_lit] at k0 k1
    exact ⟨k0, k1⟩

theorem info58 : (Try.prog.info? 87).map (fun i => (i.zero, i.size, i.bytes)) = some (some (.agg #[.int .u64 0, .int .u64 0]), 2, 16) := by kernel_rfl

/-- one range more, as a step of a region that draws its order -/
theorem stepP {ops : Array Oper} {o : Oper} {a : Act} {w : World} {K : Act → World → Prop} {Q : Exit → Act → World → Prop} {E : Prop} (s x : Operand) {sv : Value} {rs : List (Nat × Nat)} (p q : Nat) {g : Nat} {t : TypeId}
    (hb : Pairs w sv rs) (hz : Blk w g (.int .u64 p) (.int .u64 q) t) (hl : rs.length ≤ 1000000) (hw : Region.wanted o (yielded ops a.tmps) = true)
    (ho : o.op = .call { callee := .builtin .append, args := #[s, x], argTypes := #[83, 83] }) (hs : a.eval s = sv) (hx : a.eval x = .slice (some ⟨g, 0, none⟩) 1 1)
    (h : ∀ v' w', Pairs w' v' (rs ++ [(p, q)]) → Adds w w' sv v' → K (a.put o.dst v') w') :
    if Region.wanted o (yielded ops a.tmps) = true then Oper.wp Try.prog o a w K Q else E := by
  refine step_append 83 87 2 16 (.agg #[.int .u64 0, .int .u64 0]) info58 Try.underlying83 rfl (by decide) s x hw ho 0 sv rs.length (rs.flatMap pc) hs hb ⟨g, 0, none⟩ 1 1 (pc (p, q)) hx rfl ?_ ?_
    (by unfold maxLen; omega) (by omega) (Nat.zero_le _) ?_
  · intro j u hj
    match j, hj with
    | 0, hj => simp [pc] at hj; subst hj; simpa [Addr.add] using hz.c0
    | 1, hj => simp [pc] at hj; subst hj; simpa [Addr.add] using hz.c1
  · intro u hu
    simp [pc] at hu
    rcases hu with rfl | rfl <;> rfl
  · intro v' w' h1 h2
    refine h v' w' ?_ h2
    unfold Pairs
    rw [List.length_append, List.flatMap_append]
    simpa using h1

end Go.Proofs.Ytkfohickmdkplaa

namespace Go.Proofs.Ytkfohickmdkplaa
open Go.RowKit Go.Proofs.Leb Go.Proofs.Own Go.Proofs.Cur Go.Proofs.Span
set_option maxRecDepth 100000
set_option maxHeartbeats 4000000

noncomputable def wantL (x : Wnt) (r : Int) : List (Nat × Nat) := open Classical in
  if x.kind = 0 then (if hasR x.b1 x.b2 r then [(x.lo, x.hi)] else [])
  else if x.kind = 1 then [((Span.counts x.i1 x.i2 x.b1 x.b2 r).1.toNat, (Span.counts x.i1 x.i2 x.b1 x.b2 r).2.toNat)]
  else if x.kind = 2 then [((Span.sizes x.o1 x.o2 x.b1 x.b2 r).1.toNat, (Span.sizes x.o1 x.o2 x.b1 x.b2 r).2.toNat)]
  else x.picks.flatMap fun y => if hasR y.2.1 y.2.2 r then [(y.1, y.1)] else []

theorem enters_want : Enters 49 := fun args w => by kernel_rfl

theorem want0 (x : Wnt) (pv : Value) (Bw : Nat) (r : Int) (w : World) (hx : WantOk x pv w) (hb : w.heap[Bw]? = some (.cells (valW x pv) 47)) (_ : 0 ≤ r) (_ : r ≤ 1099511627776) (hk : x.kind = 0) :
    Wants 49 #[.pointer (some ⟨Bw, 0, none⟩)] (wantL x) r w := by
  have hpos : 0 ≤ x.b1 := (hx.fine.beh (.inl hk)).1
  have HL : Hid (wantL x r = open Classical in if hasR x.b1 x.b2 r then [(x.lo, x.hi)] else []) := by show _ = _; unfold wantL; rw [if_pos hk]
  obtain ⟨kind, lo, hi, i1, i2, o1, o2, b1, b2, ps⟩ := x
  simp only at *
  subst hk
  unfold valW at hb
  simp only at hb
  have HB := hid hb
  have c0 : w.cell? ⟨Bw, 0, none⟩ = some (.int .i64 0) := by rw [cell_of_row _ Bw 0 _ _ (0, 0) hb]; rfl
  have HC1 : Hid (∀ w', New w w' → w'.cell? ⟨Bw, 1, none⟩ = some (.int .u64 lo)) := fun w' hn => hn.cell (by rw [cell_of_row _ Bw 1 _ _ (0, 0) hb]; rfl) (fun h => h)
  have HC2 : Hid (∀ w', New w w' → w'.cell? ⟨Bw, 2, none⟩ = some (.int .u64 hi)) := fun w' hn => hn.cell (by rw [cell_of_row _ Bw 2 _ _ (0, 0) hb]; rfl) (fun h => h)
  have c7 : w.cell? ⟨Bw, 7, none⟩ = some (.int .i64 b1) := by rw [cell_of_row _ Bw 7 _ _ (0, 0) hb]; rfl
  have c8 : w.cell? ⟨Bw, 8, none⟩ = some (.int .i64 b2) := by rw [cell_of_row _ Bw 8 _ _ (0, 0) hb]; rfl
  have HH := hid (fun w => rHasR_any b1 b2 r w hpos)
  clear hb hx
  unfold Wants
  go_enter Try.func49, Try.ntmps49
  go_wp2_with fail
  refine (HH.out _).mono ?_
  rintro e w1 ⟨c, rfl, hc, hn⟩
  have HN := hid hn
  have HC := hid hc
  have k1 := HC1.out _ hn
  have k2 := HC2.out _ hn
  clear hc hn
  cases c with
  | true =>
    go_wp2_with fail
    go_ret
    refine ⟨_, rfl, ?_, HN.out.alloc _⟩
    rw [HL.out, if_pos (HC.out.1 (by first | rfl | trivial))]
    exact RdP.one _ _ _ _
  | false =>
    go_wp2_with fail
    go_ret
    refine ⟨_, rfl, ?_, HN.out⟩
    rw [HL.out, if_neg (fun h => by have := HC.out.2 h; simp at this)]
    exact ⟨none, 0, rfl, Nat.le_refl _, fun _ => rfl, fun h => absurd rfl h⟩

theorem want1 (x : Wnt) (pv : Value) (Bw : Nat) (r : Int) (w : World) (hx : WantOk x pv w) (hb : w.heap[Bw]? = some (.cells (valW x pv) 47)) (h0 : 0 ≤ r) (h1 : r ≤ 1099511627776) (hk : x.kind = 1) :
    Wants 49 #[.pointer (some ⟨Bw, 0, none⟩)] (wantL x) r w := by
  have HS := hid (fun w => Counts_any x.i1 x.i2 x.b1 x.b2 r w (hx.fine.item hk) (hx.fine.beh (.inr (.inl hk))) h0 h1)
  have hbd := counts_small x.i1 x.i2 x.b1 x.b2 r
  obtain ⟨a, ha⟩ : ∃ a : Nat, (Span.counts x.i1 x.i2 x.b1 x.b2 r).1 = a := ⟨(Span.counts x.i1 x.i2 x.b1 x.b2 r).1.toNat, by omega⟩
  obtain ⟨z, hz⟩ : ∃ z : Nat, (Span.counts x.i1 x.i2 x.b1 x.b2 r).2 = z := ⟨(Span.counts x.i1 x.i2 x.b1 x.b2 r).2.toNat, by omega⟩
  have HL : Hid (wantL x r = [(a, z)]) := by show _ = _; unfold wantL; rw [if_neg (by omega), if_pos hk, ha, hz, Int.toNat_natCast, Int.toNat_natCast]
  rw [ha, hz] at HS
  clear ha hz hbd
  obtain ⟨kind, lo, hi, i1, i2, o1, o2, b1, b2, ps⟩ := x
  simp only at *
  subst hk
  unfold valW at hb
  simp only at hb
  have HB := hid hb
  have c0 : w.cell? ⟨Bw, 0, none⟩ = some (.int .i64 1) := by rw [cell_of_row _ Bw 0 _ _ (0, 0) hb]; rfl
  have HC3 : Hid (∀ w', New w w' → w'.cell? ⟨Bw, 3, none⟩ = some (.int .i64 i1)) := fun w' hn => hn.cell (by rw [cell_of_row _ Bw 3 _ _ (0, 0) hb]; rfl) (fun h => h)
  have HC4 : Hid (∀ w', New w w' → w'.cell? ⟨Bw, 4, none⟩ = some (.int .i64 i2)) := fun w' hn => hn.cell (by rw [cell_of_row _ Bw 4 _ _ (0, 0) hb]; rfl) (fun h => h)
  have HC7 : Hid (∀ w', New w w' → w'.cell? ⟨Bw, 7, none⟩ = some (.int .i64 b1)) := fun w' hn => hn.cell (by rw [cell_of_row _ Bw 7 _ _ (0, 0) hb]; rfl) (fun h => h)
  have HC8 : Hid (∀ w', New w w' → w'.cell? ⟨Bw, 8, none⟩ = some (.int .i64 b2)) := fun w' hn => hn.cell (by rw [cell_of_row _ Bw 8 _ _ (0, 0) hb]; rfl) (fun h => h)
  have HO := hid (fun a b w => own_any a b w)
  clear hb hx
  unfold Wants
  go_enter Try.func49, Try.ntmps49
  go_upto_region 7 with fail
  have hn : New w w.drew := (Upd.refl _ _).drew
  refine wp_region_noPanic ?_
  refine wp_region_held_drew (S := (New w)) (by kernel_rfl) (by first | exact hn | exact (Upd.refl _ _).drew | exact Upd.drew (by assumption)) (fun hn => ?_)
  generalize w.drew = wd at *
  refine wpAnyH_take (i := 0) (oi := { dst := some 22, op := Op.fieldAddr 47 (Operand.tmp 1) 3, type := 0, pos := "law.go:50", after := #[], guard := none }) (v := ?v16x1) rfl (by kernel_rfl) (by kernel_rfl) (by kernel_rfl) (fun _ _ _ h => h) (Or.inl ⟨by rfl, ?y16x1⟩) hn ?r16x1
  case y16x1 => (intro wS hS; (try go_simp); (try with_reducible rfl))
  try simp only [Act.put, List.setIfInBounds_toArray, List.set_cons_zero, List.set_cons_succ]
  refine wpAnyH_take (i := 1) (oi := { dst := some 23, op := Op.load 44 (Operand.tmp 22), type := 44, pos := "law.go:50", after := #[{ on := 0, ground := Ground.data }], guard := none }) (v := ?v16x2) rfl (by kernel_rfl) (by kernel_rfl) (by kernel_rfl) (fun _ _ _ h => h) (Or.inl ⟨by rfl, ?y16x2⟩) hn ?r16x2
  case y16x2 => (intro wS hS; have c3 := HC3.out _ hS; have c4 := HC4.out _ hS; (try go_simp); (try with_reducible rfl))
  try simp only [Act.put, List.setIfInBounds_toArray, List.set_cons_zero, List.set_cons_succ]
  refine wpAnyH_take (i := 3) (oi := { dst := some 25, op := Op.fieldAddr 47 (Operand.tmp 1) 5, type := 0, pos := "law.go:50", after := #[], guard := none }) (v := ?v16x3) rfl (by kernel_rfl) (by kernel_rfl) (by kernel_rfl) (fun _ _ _ h => h) (Or.inl ⟨by rfl, ?y16x3⟩) hn ?r16x3
  case y16x3 => (intro wS hS; (try go_simp); (try with_reducible rfl))
  try simp only [Act.put, List.setIfInBounds_toArray, List.set_cons_zero, List.set_cons_succ]
  refine wpAnyH_take (i := 4) (oi := { dst := some 26, op := Op.load 44 (Operand.tmp 25), type := 44, pos := "law.go:50", after := #[{ on := 3, ground := Ground.data }], guard := none }) (v := ?v16x4) rfl (by kernel_rfl) (by kernel_rfl) (by kernel_rfl) (fun _ _ _ h => h) (Or.inl ⟨by rfl, ?y16x4⟩) hn ?r16x4
  case y16x4 => (intro wS hS; have c7 := HC7.out _ hS; have c8 := HC8.out _ hS; (try go_simp); (try with_reducible rfl))
  try simp only [Act.put, List.setIfInBounds_toArray, List.set_cons_zero, List.set_cons_succ]
  refine wpAnyH_take (i := 6) (oi := { dst := some 28, op := Op.move (Operand.tmp 0), type := 3, pos := "law.go:50", after := #[], guard := none }) (v := ?v16x5) rfl (by kernel_rfl) (by kernel_rfl) (by kernel_rfl) (fun _ _ _ h => h) (Or.inl ⟨by rfl, ?y16x5⟩) hn ?r16x5
  case y16x5 => (intro wS hS; (try go_simp); (try with_reducible rfl))
  try simp only [Act.put, List.setIfInBounds_toArray, List.set_cons_zero, List.set_cons_succ]
  refine wpAnyH_ready (rs := [2]) (by kernel_rfl) (by simp) ?_
  refine AllReadyH.cons (o := { dst := some 24, op := Op.call { callee := Callee.value (Operand.func 24), args := #[Operand.tmp 23], argTypes := #[44] }, type := 68, pos := "law.go:50", after := #[{ on := 1, ground := Ground.data }], guard := none }) rfl (fun K hK => ?_) AllReadyH.nil
  go_simp
  refine (HO.out _ _ _).mono ?_
  rintro e wa ⟨rfl, hna⟩
  go_wp2_with fail
  have hn := New.trans hn hna
  refine hK.out _ _ (by first | exact hn | exact Upd.alloc hn _) (fun hn => ?_)
  clear hK K
  try simp only [Act.put, List.setIfInBounds_toArray, List.set_cons_zero, List.set_cons_succ]
  refine wpAnyH_ready (rs := [5]) (by kernel_rfl) (by simp) ?_
  refine AllReadyH.cons (o := { dst := some 27, op := Op.call { callee := Callee.value (Operand.func 24), args := #[Operand.tmp 26], argTypes := #[44] }, type := 68, pos := "law.go:50", after := #[{ on := 4, ground := Ground.data }, { on := 2, ground := Ground.chain }], guard := none }) rfl (fun K hK => ?_) AllReadyH.nil
  go_simp
  refine (HO.out _ _ _).mono ?_
  rintro e wa ⟨rfl, hna⟩
  go_wp2_with fail
  have hn := New.trans hn hna
  refine hK.out _ _ (by first | exact hn | exact Upd.alloc hn _) (fun hn => ?_)
  clear hK K
  try simp only [Act.put, List.setIfInBounds_toArray, List.set_cons_zero, List.set_cons_succ]
  refine wpAnyH_ready (rs := [7]) (by kernel_rfl) (by simp) ?_
  refine AllReadyH.cons (o := { dst := some 29, op := Op.call { callee := Callee.value (Operand.func 51), args := #[Operand.tmp 24, Operand.tmp 27, Operand.tmp 28], argTypes := #[68, 68, 3] }, type := 87, pos := "law.go:50", after := #[{ on := 2, ground := Ground.data }, { on := 5, ground := Ground.data }, { on := 6, ground := Ground.data }, { on := 5, ground := Ground.chain }], guard := none }) rfl (fun K hK => ?_) AllReadyH.nil
  go_simp
  refine (HS.out _).mono ?_
  rintro e wb ⟨rfl, hnb⟩
  go_wp2_with fail
  have hn := New.trans hn hnb
  refine hK.out _ _ (by first | exact hn | exact Upd.alloc hn _) (fun hn => ?_)
  clear hK K
  try simp only [Act.put, List.setIfInBounds_toArray, List.set_cons_zero, List.set_cons_succ]
  refine wpAnyH_ready (rs := [8]) (by kernel_rfl) (by simp) ?_
  refine AllReadyH.cons (o := { dst := some 30, op := Op.buildSlice 83 1 #[(0, Operand.tmp 29)], type := 83, pos := "law.go:50", after := #[{ on := 7, ground := Ground.data }], guard := none }) rfl (fun K hK => ?_) AllReadyH.nil
  go_simp
  refine hK.out _ _ (by first | exact hn | exact Upd.alloc hn _) (fun hn => ?_)
  clear hK K
  try simp only [Act.put, List.setIfInBounds_toArray, List.set_cons_zero, List.set_cons_succ]
  refine wpAnyH_take (i := 9) (oi := { dst := some 3, op := Op.assign (Operand.tmp 30), type := 83, pos := "law.go:50", after := #[{ on := 8, ground := Ground.data }, { on := 7, ground := Ground.chain }, { on := 0, ground := Ground.phase }, { on := 1, ground := Ground.phase }, { on := 2, ground := Ground.phase }, { on := 3, ground := Ground.phase }, { on := 4, ground := Ground.phase }, { on := 5, ground := Ground.phase }, { on := 6, ground := Ground.phase }, { on := 7, ground := Ground.phase }, { on := 8, ground := Ground.phase }], guard := none }) (v := ?v16x6) rfl (by kernel_rfl) (by kernel_rfl) (by kernel_rfl) (fun _ _ _ h => h) (Or.inl ⟨by rfl, ?y16x6⟩) hn ?r16x6
  case y16x6 => (intro wS hS; (try go_simp); (try with_reducible rfl))
  try simp only [Act.put, List.setIfInBounds_toArray, List.set_cons_zero, List.set_cons_succ]
  refine wpAnyH_done (by kernel_rfl) ?_ _
  refine NoPanic.normal ?_
  go_wp2_with fail
  go_ret
  refine ⟨_, rfl, ?_, hn⟩
  rw [HL.out]
  exact RdP.one _ _ _ _

theorem want2 (x : Wnt) (pv : Value) (Bw : Nat) (r : Int) (w : World) (hx : WantOk x pv w) (hb : w.heap[Bw]? = some (.cells (valW x pv) 47)) (h0 : 0 ≤ r) (h1 : r ≤ 1099511627776) (hk : x.kind = 2) :
    Wants 49 #[.pointer (some ⟨Bw, 0, none⟩)] (wantL x) r w := by
  have HS := hid (fun w => Sizes_any x.o1 x.o2 x.b1 x.b2 r w (hx.fine.own hk) (hx.fine.beh (.inr (.inr hk))) h0 h1)
  have hbd := sizes_small x.o1 x.o2 x.b1 x.b2 r
  obtain ⟨a, ha⟩ : ∃ a : Nat, (Span.sizes x.o1 x.o2 x.b1 x.b2 r).1 = a := ⟨(Span.sizes x.o1 x.o2 x.b1 x.b2 r).1.toNat, by omega⟩
  obtain ⟨z, hz⟩ : ∃ z : Nat, (Span.sizes x.o1 x.o2 x.b1 x.b2 r).2 = z := ⟨(Span.sizes x.o1 x.o2 x.b1 x.b2 r).2.toNat, by omega⟩
  have HL : Hid (wantL x r = [(a, z)]) := by show _ = _; unfold wantL; rw [if_neg (by omega), if_neg (by omega), if_pos hk, ha, hz, Int.toNat_natCast, Int.toNat_natCast]
  rw [ha, hz] at HS
  clear ha hz hbd
  obtain ⟨kind, lo, hi, i1, i2, o1, o2, b1, b2, ps⟩ := x
  simp only at *
  subst hk
  unfold valW at hb
  simp only at hb
  have HB := hid hb
  have c0 : w.cell? ⟨Bw, 0, none⟩ = some (.int .i64 2) := by rw [cell_of_row _ Bw 0 _ _ (0, 0) hb]; rfl
  have HC3 : Hid (∀ w', New w w' → w'.cell? ⟨Bw, 5, none⟩ = some (.int .i64 o1)) := fun w' hn => hn.cell (by rw [cell_of_row _ Bw 5 _ _ (0, 0) hb]; rfl) (fun h => h)
  have HC4 : Hid (∀ w', New w w' → w'.cell? ⟨Bw, 6, none⟩ = some (.int .i64 o2)) := fun w' hn => hn.cell (by rw [cell_of_row _ Bw 6 _ _ (0, 0) hb]; rfl) (fun h => h)
  have HC7 : Hid (∀ w', New w w' → w'.cell? ⟨Bw, 7, none⟩ = some (.int .i64 b1)) := fun w' hn => hn.cell (by rw [cell_of_row _ Bw 7 _ _ (0, 0) hb]; rfl) (fun h => h)
  have HC8 : Hid (∀ w', New w w' → w'.cell? ⟨Bw, 8, none⟩ = some (.int .i64 b2)) := fun w' hn => hn.cell (by rw [cell_of_row _ Bw 8 _ _ (0, 0) hb]; rfl) (fun h => h)
  have HO := hid (fun a b w => own_any a b w)
  clear hb hx
  unfold Wants
  go_enter Try.func49, Try.ntmps49
  go_upto_region 9 with fail
  have hn : New w w.drew := (Upd.refl _ _).drew
  refine wp_region_noPanic ?_
  refine wp_region_held_drew (S := (New w)) (by kernel_rfl) (by first | exact hn | exact (Upd.refl _ _).drew | exact Upd.drew (by assumption)) (fun hn => ?_)
  generalize w.drew = wd at *
  refine wpAnyH_take (i := 0) (oi := { dst := some 33, op := Op.fieldAddr 47 (Operand.tmp 1) 4, type := 0, pos := "law.go:52", after := #[], guard := none }) (v := ?v17x1) rfl (by kernel_rfl) (by kernel_rfl) (by kernel_rfl) (fun _ _ _ h => h) (Or.inl ⟨by rfl, ?y17x1⟩) hn ?r17x1
  case y17x1 => (intro wS hS; (try go_simp); (try with_reducible rfl))
  try simp only [Act.put, List.setIfInBounds_toArray, List.set_cons_zero, List.set_cons_succ]
  refine wpAnyH_take (i := 1) (oi := { dst := some 34, op := Op.load 44 (Operand.tmp 33), type := 44, pos := "law.go:52", after := #[{ on := 0, ground := Ground.data }], guard := none }) (v := ?v17x2) rfl (by kernel_rfl) (by kernel_rfl) (by kernel_rfl) (fun _ _ _ h => h) (Or.inl ⟨by rfl, ?y17x2⟩) hn ?r17x2
  case y17x2 => (intro wS hS; have c3 := HC3.out _ hS; have c4 := HC4.out _ hS; (try go_simp); (try with_reducible rfl))
  try simp only [Act.put, List.setIfInBounds_toArray, List.set_cons_zero, List.set_cons_succ]
  refine wpAnyH_take (i := 3) (oi := { dst := some 36, op := Op.fieldAddr 47 (Operand.tmp 1) 5, type := 0, pos := "law.go:52", after := #[], guard := none }) (v := ?v17x3) rfl (by kernel_rfl) (by kernel_rfl) (by kernel_rfl) (fun _ _ _ h => h) (Or.inl ⟨by rfl, ?y17x3⟩) hn ?r17x3
  case y17x3 => (intro wS hS; (try go_simp); (try with_reducible rfl))
  try simp only [Act.put, List.setIfInBounds_toArray, List.set_cons_zero, List.set_cons_succ]
  refine wpAnyH_take (i := 4) (oi := { dst := some 37, op := Op.load 44 (Operand.tmp 36), type := 44, pos := "law.go:52", after := #[{ on := 3, ground := Ground.data }], guard := none }) (v := ?v17x4) rfl (by kernel_rfl) (by kernel_rfl) (by kernel_rfl) (fun _ _ _ h => h) (Or.inl ⟨by rfl, ?y17x4⟩) hn ?r17x4
  case y17x4 => (intro wS hS; have c7 := HC7.out _ hS; have c8 := HC8.out _ hS; (try go_simp); (try with_reducible rfl))
  try simp only [Act.put, List.setIfInBounds_toArray, List.set_cons_zero, List.set_cons_succ]
  refine wpAnyH_take (i := 6) (oi := { dst := some 39, op := Op.move (Operand.tmp 0), type := 3, pos := "law.go:52", after := #[], guard := none }) (v := ?v17x5) rfl (by kernel_rfl) (by kernel_rfl) (by kernel_rfl) (fun _ _ _ h => h) (Or.inl ⟨by rfl, ?y17x5⟩) hn ?r17x5
  case y17x5 => (intro wS hS; (try go_simp); (try with_reducible rfl))
  try simp only [Act.put, List.setIfInBounds_toArray, List.set_cons_zero, List.set_cons_succ]
  refine wpAnyH_ready (rs := [2]) (by kernel_rfl) (by simp) ?_
  refine AllReadyH.cons (o := { dst := some 35, op := Op.call { callee := Callee.value (Operand.func 24), args := #[Operand.tmp 34], argTypes := #[44] }, type := 68, pos := "law.go:52", after := #[{ on := 1, ground := Ground.data }], guard := none }) rfl (fun K hK => ?_) AllReadyH.nil
  go_simp
  refine (HO.out _ _ _).mono ?_
  rintro e wa ⟨rfl, hna⟩
  go_wp2_with fail
  have hn := New.trans hn hna
  refine hK.out _ _ (by first | exact hn | exact Upd.alloc hn _) (fun hn => ?_)
  clear hK K
  try simp only [Act.put, List.setIfInBounds_toArray, List.set_cons_zero, List.set_cons_succ]
  refine wpAnyH_ready (rs := [5]) (by kernel_rfl) (by simp) ?_
  refine AllReadyH.cons (o := { dst := some 38, op := Op.call { callee := Callee.value (Operand.func 24), args := #[Operand.tmp 37], argTypes := #[44] }, type := 68, pos := "law.go:52", after := #[{ on := 4, ground := Ground.data }, { on := 2, ground := Ground.chain }], guard := none }) rfl (fun K hK => ?_) AllReadyH.nil
  go_simp
  refine (HO.out _ _ _).mono ?_
  rintro e wa ⟨rfl, hna⟩
  go_wp2_with fail
  have hn := New.trans hn hna
  refine hK.out _ _ (by first | exact hn | exact Upd.alloc hn _) (fun hn => ?_)
  clear hK K
  try simp only [Act.put, List.setIfInBounds_toArray, List.set_cons_zero, List.set_cons_succ]
  refine wpAnyH_ready (rs := [7]) (by kernel_rfl) (by simp) ?_
  refine AllReadyH.cons (o := { dst := some 40, op := Op.call { callee := Callee.value (Operand.func 52), args := #[Operand.tmp 35, Operand.tmp 38, Operand.tmp 39], argTypes := #[68, 68, 3] }, type := 87, pos := "law.go:52", after := #[{ on := 2, ground := Ground.data }, { on := 5, ground := Ground.data }, { on := 6, ground := Ground.data }, { on := 5, ground := Ground.chain }], guard := none }) rfl (fun K hK => ?_) AllReadyH.nil
  go_simp
  refine (HS.out _).mono ?_
  rintro e wb ⟨rfl, hnb⟩
  go_wp2_with fail
  have hn := New.trans hn hnb
  refine hK.out _ _ (by first | exact hn | exact Upd.alloc hn _) (fun hn => ?_)
  clear hK K
  try simp only [Act.put, List.setIfInBounds_toArray, List.set_cons_zero, List.set_cons_succ]
  refine wpAnyH_ready (rs := [8]) (by kernel_rfl) (by simp) ?_
  refine AllReadyH.cons (o := { dst := some 41, op := Op.buildSlice 83 1 #[(0, Operand.tmp 40)], type := 83, pos := "law.go:52", after := #[{ on := 7, ground := Ground.data }], guard := none }) rfl (fun K hK => ?_) AllReadyH.nil
  go_simp
  refine hK.out _ _ (by first | exact hn | exact Upd.alloc hn _) (fun hn => ?_)
  clear hK K
  try simp only [Act.put, List.setIfInBounds_toArray, List.set_cons_zero, List.set_cons_succ]
  refine wpAnyH_take (i := 9) (oi := { dst := some 3, op := Op.assign (Operand.tmp 41), type := 83, pos := "law.go:52", after := #[{ on := 8, ground := Ground.data }, { on := 7, ground := Ground.chain }, { on := 0, ground := Ground.phase }, { on := 1, ground := Ground.phase }, { on := 2, ground := Ground.phase }, { on := 3, ground := Ground.phase }, { on := 4, ground := Ground.phase }, { on := 5, ground := Ground.phase }, { on := 6, ground := Ground.phase }, { on := 7, ground := Ground.phase }, { on := 8, ground := Ground.phase }], guard := none }) (v := ?v17x6) rfl (by kernel_rfl) (by kernel_rfl) (by kernel_rfl) (fun _ _ _ h => h) (Or.inl ⟨by rfl, ?y17x6⟩) hn ?r17x6
  case y17x6 => (intro wS hS; (try go_simp); (try with_reducible rfl))
  try simp only [Act.put, List.setIfInBounds_toArray, List.set_cons_zero, List.set_cons_succ]
  refine wpAnyH_done (by kernel_rfl) ?_ _
  refine NoPanic.normal ?_
  go_wp2_with fail
  go_ret
  refine ⟨_, rfl, ?_, hn⟩
  rw [HL.out]
  exact RdP.one _ _ _ _

/-- what a pick allows -/
noncomputable def pickL (r : Int) (y : Nat × Int × Int) : List (Nat × Nat) := open Classical in if hasR y.2.1 y.2.2 r then [(y.1, y.1)] else []
theorem pickL_len (r : Int) : ∀ l : List (Nat × Int × Int), (l.flatMap (pickL r)).length ≤ l.length
  | [] => Nat.le_refl _
  | y :: t => by
    have h1 := pickL_len r t
    have h2 : (pickL r y).length ≤ 1 := by unfold pickL; split <;> simp
    simp only [List.flatMap_cons, List.length_append, List.length_cons]
    omega

theorem want3 (x : Wnt) (pv : Value) (Bw : Nat) (r : Int) (w : World) (hx : WantOk x pv w) (hb : w.heap[Bw]? = some (.cells (valW x pv) 47)) (hk : x.kind = 3) :
    Wants 49 #[.pointer (some ⟨Bw, 0, none⟩)] (wantL x) r w := by
  have HL : Hid (wantL x r = x.picks.flatMap (pickL r)) := by show _ = _; unfold wantL; rw [if_neg (by omega), if_neg (by omega), if_neg (by omega)]; rfl
  obtain ⟨-, -, hrd, hfew, hpos, -⟩ := hx
  obtain ⟨kind, lo, hi, i1, i2, o1, o2, b1, b2, ps⟩ := x
  simp only at *
  subst hk
  unfold valW at hb
  simp only at hb
  have c0 : w.cell? ⟨Bw, 0, none⟩ = some (.int .i64 3) := by rw [cell_of_row _ Bw 0 _ _ (0, 0) hb]; rfl
  have HC9 : Hid (∀ w', New w w' → w'.cell? ⟨Bw, 9, none⟩ = some pv) := fun w' hn => hn.cell (by rw [cell_of_row _ Bw 9 _ _ (0, 0) hb]; rfl) (fun h => h)
  have HP := hid hrd
  have HPB := hid hpos
  obtain ⟨ao, cap, rfl⟩ := hrd.shape
  clear hb hrd hpos
  unfold Wants
  go_enter Try.func49, Try.ntmps49
  go_wp2_with fail
  go_loopg [4, 5] ps.length (fun k v c wr => ∃ i : Nat, k = ps.length - i ∧ c = .int .i64 i ∧ i ≤ ps.length ∧ Pairs wr v ((ps.take i).flatMap (pickL r)) ∧ New w wr ∧ Fresh w v)
  case atStart => exact ⟨0, by simp, rfl, Nat.zero_le _, Pairs.nil _, Upd.refl _ _, (fun k h => by cases h)⟩
  case round =>
    obtain ⟨i, rfl, rfl, hi1, hp, hw, hf⟩ := hrel
    have HPP := hid hp
    have HW := hid hw
    have HF := hid hf
    have c9 := HC9.out _ hw
    obtain ⟨wo, rfl⟩ : ∃ wo : World, wo = wr := ⟨_, rfl⟩
    clear hp hw hf
    by_cases hlt : i < ps.length
    · obtain ⟨_, _, e, _, _, hcell⟩ := HP.out
      obtain ⟨bl, of, rfl, hcl⟩ := hcell (by intro h; subst h; simp at hlt)
      cases e
      have D0 : Hid (∀ w', New w w' → w'.cell? ⟨bl, of + i * 3, none⟩ = some (.int .u64 ps[i].1)) := fun w' hn => hn.cell (hcl i hlt).1 (fun h => h)
      have d1 := HW.out.cell (hcl i hlt).2.1 (fun h => h)
      have d2 := HW.out.cell (hcl i hlt).2.2 (fun h => h)
      have hpb := HPB.out ps[i] (List.getElem_mem _)
      have HNX : Hid ((ps.take (i + 1)).flatMap (pickL r) = (ps.take i).flatMap (pickL r) ++ pickL r ps[i]) := by
        show _ = _
        rw [List.take_succ_eq_append_getElem hlt, List.flatMap_append]
        simp
      have HPK : Hid ((hasR ps[i].2.1 ps[i].2.2 r → pickL r ps[i] = [(ps[i].1, ps[i].1)]) ∧ (¬ hasR ps[i].2.1 ps[i].2.2 r → pickL r ps[i] = [])) := ⟨fun h => if_pos h, fun h => if_neg h⟩
      have HH := hid (fun w => rHasR_any ps[i].2.1 ps[i].2.2 r w hpb)
      have hlen : ((ps.take i).flatMap (pickL r)).length ≤ 1000000 := by have := pickL_len r (ps.take i); have := List.length_take_le i ps; omega
      have HLN := hid hlen
      obtain ⟨PL, hPL⟩ : ∃ PL, pickL r ps[i] = PL := ⟨_, rfl⟩
      rw [hPL] at HNX HPK
      obtain ⟨V, hV⟩ : ∃ V, ps[i].1 = V := ⟨_, rfl⟩
      obtain ⟨y1, hy1⟩ : ∃ y, ps[i].2.1 = y := ⟨_, rfl⟩
      obtain ⟨y2, hy2⟩ : ∃ y, ps[i].2.2 = y := ⟨_, rfl⟩
      rw [hV] at D0 HPK
      rw [hy1] at d1 HPK HH
      rw [hy2] at d2 HPK HH
      clear hV hy1 hy2 hcl hcell hpb hPL hlen
      go_wp2_with fail
      refine (HH.out _).mono ?_
      rintro e w3 ⟨b, rfl, hb, hn3⟩
      have HB := hid hb
      have hn := New.trans HW.out hn3
      have HN3 := hid hn
      clear hb d1 d2 c9
      cases b with
      | true =>
        have hpw0 := HPP.out.new hn3
        have HP0 := hid hpw0
        clear hpw0 hn3
        go_upto_region 15 with fail
        have hd3 : New w3 w3.drew := (Upd.refl _ _).drew
        have hn := New.trans hn hd3
        refine wp_region_noPanic ?_
        refine wp_region_held_drew (S := (New w)) (by kernel_rfl) (by first | exact hn | exact (Upd.refl _ _).drew | exact Upd.drew (by assumption)) (fun hn => ?_)
        generalize w3.drew = wd at *
        refine wpAnyH_take (i := 0) (oi := { dst := some 57, op := Op.move (Operand.tmp 4), type := 83, pos := "law.go:57", after := #[], guard := none }) (v := ?v18x1) rfl (by kernel_rfl) (by kernel_rfl) (by kernel_rfl) (fun _ _ _ h => h) (Or.inl ⟨by rfl, ?y18x1⟩) hn ?r18x1
        case y18x1 => (intro wS hS; (try go_simp); (try with_reducible rfl))
        try simp only [Act.put, List.setIfInBounds_toArray, List.set_cons_zero, List.set_cons_succ]
        refine wpAnyH_take (i := 1) (oi := { dst := some 58, op := Op.fieldAddr 47 (Operand.tmp 1) 6, type := 0, pos := "law.go:57", after := #[], guard := none }) (v := ?v18x2) rfl (by kernel_rfl) (by kernel_rfl) (by kernel_rfl) (fun _ _ _ h => h) (Or.inl ⟨by rfl, ?y18x2⟩) hn ?r18x2
        case y18x2 => (intro wS hS; (try go_simp); (try with_reducible rfl))
        try simp only [Act.put, List.setIfInBounds_toArray, List.set_cons_zero, List.set_cons_succ]
        refine wpAnyH_take (i := 2) (oi := { dst := some 59, op := Op.load 45 (Operand.tmp 58), type := 45, pos := "law.go:57", after := #[{ on := 1, ground := Ground.data }], guard := none }) (v := ?v18x3) rfl (by kernel_rfl) (by kernel_rfl) (by kernel_rfl) (fun _ _ _ h => h) (Or.inl ⟨by rfl, ?y18x3⟩) hn ?r18x3
        case y18x3 => (intro wS hS; have c9 := HC9.out _ hS; (try go_simp); (try with_reducible rfl))
        try simp only [Act.put, List.setIfInBounds_toArray, List.set_cons_zero, List.set_cons_succ]
        refine wpAnyH_take (i := 3) (oi := { dst := some 60, op := Op.move (Operand.tmp 5), type := 3, pos := "law.go:57", after := #[], guard := none }) (v := ?v18x4) rfl (by kernel_rfl) (by kernel_rfl) (by kernel_rfl) (fun _ _ _ h => h) (Or.inl ⟨by rfl, ?y18x4⟩) hn ?r18x4
        case y18x4 => (intro wS hS; (try go_simp); (try with_reducible rfl))
        try simp only [Act.put, List.setIfInBounds_toArray, List.set_cons_zero, List.set_cons_succ]
        refine wpAnyH_take (i := 4) (oi := { dst := some 61, op := Op.indexAddr 45 (Operand.tmp 59) (Operand.tmp 60), type := 0, pos := "law.go:57", after := #[{ on := 2, ground := Ground.data }, { on := 3, ground := Ground.data }], guard := none }) (v := ?v18x5) rfl (by kernel_rfl) (by kernel_rfl) (by kernel_rfl) (fun _ _ _ h => h) (Or.inl ⟨by rfl, ?y18x5⟩) hn ?r18x5
        case y18x5 => (intro wS hS; (try go_simp); (try with_reducible rfl))
        try simp only [Act.put, List.setIfInBounds_toArray, List.set_cons_zero, List.set_cons_succ]
        refine wpAnyH_take (i := 5) (oi := { dst := some 62, op := Op.fieldAddr 52 (Operand.tmp 61) 0, type := 0, pos := "law.go:57", after := #[{ on := 4, ground := Ground.data }], guard := none }) (v := ?v18x6) rfl (by kernel_rfl) (by kernel_rfl) (by kernel_rfl) (fun _ _ _ h => h) (Or.inl ⟨by rfl, ?y18x6⟩) hn ?r18x6
        case y18x6 => (intro wS hS; (try go_simp); (try with_reducible rfl))
        try simp only [Act.put, List.setIfInBounds_toArray, List.set_cons_zero, List.set_cons_succ]
        refine wpAnyH_take (i := 6) (oi := { dst := some 63, op := Op.load 42 (Operand.tmp 62), type := 42, pos := "law.go:57", after := #[{ on := 5, ground := Ground.data }], guard := none }) (v := ?v18x7) rfl (by kernel_rfl) (by kernel_rfl) (by kernel_rfl) (fun _ _ _ h => h) (Or.inl ⟨by rfl, ?y18x7⟩) hn ?r18x7
        case y18x7 => (intro wS hS; have d0 := D0.out _ hS; (try go_simp); (try with_reducible rfl))
        try simp only [Act.put, List.setIfInBounds_toArray, List.set_cons_zero, List.set_cons_succ]
        refine wpAnyH_take (i := 7) (oi := { dst := some 64, op := Op.fieldAddr 47 (Operand.tmp 1) 6, type := 0, pos := "law.go:57", after := #[], guard := none }) (v := ?v18x8) rfl (by kernel_rfl) (by kernel_rfl) (by kernel_rfl) (fun _ _ _ h => h) (Or.inl ⟨by rfl, ?y18x8⟩) hn ?r18x8
        case y18x8 => (intro wS hS; (try go_simp); (try with_reducible rfl))
        try simp only [Act.put, List.setIfInBounds_toArray, List.set_cons_zero, List.set_cons_succ]
        refine wpAnyH_take (i := 8) (oi := { dst := some 65, op := Op.load 45 (Operand.tmp 64), type := 45, pos := "law.go:57", after := #[{ on := 7, ground := Ground.data }], guard := none }) (v := ?v18x9) rfl (by kernel_rfl) (by kernel_rfl) (by kernel_rfl) (fun _ _ _ h => h) (Or.inl ⟨by rfl, ?y18x9⟩) hn ?r18x9
        case y18x9 => (intro wS hS; have c9 := HC9.out _ hS; (try go_simp); (try with_reducible rfl))
        try simp only [Act.put, List.setIfInBounds_toArray, List.set_cons_zero, List.set_cons_succ]
        refine wpAnyH_take (i := 9) (oi := { dst := some 66, op := Op.move (Operand.tmp 5), type := 3, pos := "law.go:57", after := #[], guard := none }) (v := ?v18x10) rfl (by kernel_rfl) (by kernel_rfl) (by kernel_rfl) (fun _ _ _ h => h) (Or.inl ⟨by rfl, ?y18x10⟩) hn ?r18x10
        case y18x10 => (intro wS hS; (try go_simp); (try with_reducible rfl))
        try simp only [Act.put, List.setIfInBounds_toArray, List.set_cons_zero, List.set_cons_succ]
        refine wpAnyH_take (i := 10) (oi := { dst := some 67, op := Op.indexAddr 45 (Operand.tmp 65) (Operand.tmp 66), type := 0, pos := "law.go:57", after := #[{ on := 8, ground := Ground.data }, { on := 9, ground := Ground.data }], guard := none }) (v := ?v18x11) rfl (by kernel_rfl) (by kernel_rfl) (by kernel_rfl) (fun _ _ _ h => h) (Or.inl ⟨by rfl, ?y18x11⟩) hn ?r18x11
        case y18x11 => (intro wS hS; (try go_simp); (try with_reducible rfl))
        try simp only [Act.put, List.setIfInBounds_toArray, List.set_cons_zero, List.set_cons_succ]
        refine wpAnyH_take (i := 11) (oi := { dst := some 68, op := Op.fieldAddr 52 (Operand.tmp 67) 0, type := 0, pos := "law.go:57", after := #[{ on := 10, ground := Ground.data }], guard := none }) (v := ?v18x12) rfl (by kernel_rfl) (by kernel_rfl) (by kernel_rfl) (fun _ _ _ h => h) (Or.inl ⟨by rfl, ?y18x12⟩) hn ?r18x12
        case y18x12 => (intro wS hS; (try go_simp); (try with_reducible rfl))
        try simp only [Act.put, List.setIfInBounds_toArray, List.set_cons_zero, List.set_cons_succ]
        refine wpAnyH_take (i := 12) (oi := { dst := some 69, op := Op.load 42 (Operand.tmp 68), type := 42, pos := "law.go:57", after := #[{ on := 11, ground := Ground.data }], guard := none }) (v := ?v18x13) rfl (by kernel_rfl) (by kernel_rfl) (by kernel_rfl) (fun _ _ _ h => h) (Or.inl ⟨by rfl, ?y18x13⟩) hn ?r18x13
        case y18x13 => (intro wS hS; have d0 := D0.out _ hS; (try go_simp); (try with_reducible rfl))
        try simp only [Act.put, List.setIfInBounds_toArray, List.set_cons_zero, List.set_cons_succ]
        refine wpAnyH_take (i := 13) (oi := { dst := some 70, op := Op.build 87 #[(0, Operand.tmp 63), (1, Operand.tmp 69)], type := 87, pos := "law.go:57", after := #[{ on := 6, ground := Ground.data }, { on := 12, ground := Ground.data }], guard := none }) (v := ?v18x14) rfl (by kernel_rfl) (by kernel_rfl) (by kernel_rfl) (fun _ _ _ h => h) (Or.inl ⟨by rfl, ?y18x14⟩) hn ?r18x14
        case y18x14 => (intro wS hS; (try go_simp); (try with_reducible rfl))
        try simp only [Act.put, List.setIfInBounds_toArray, List.set_cons_zero, List.set_cons_succ]
        refine wpAnyH_ready (rs := [14]) (by kernel_rfl) (by simp) ?_
        refine AllReadyH.cons (o := { dst := some 71, op := Op.buildSlice 83 1 #[(0, Operand.tmp 70)], type := 83, pos := "law.go:57", after := #[{ on := 13, ground := Ground.data }], guard := none }) rfl (fun K hK => ?_) AllReadyH.nil
        go_simp
        refine allocStep hn ?_
        intro W2 hu hn hz
        have hpw := HP0.out.new (New.trans hd3 hu)
        refine hK.out _ _ (by first | exact hn | exact Upd.alloc hn _) (fun hn => ?_)
        clear hK K
        try simp only [Act.put, List.setIfInBounds_toArray, List.set_cons_zero, List.set_cons_succ]
        refine wpAnyH_ready (rs := [15]) (by kernel_rfl) (by simp) ?_
        refine AllReadyH.cons (o := { dst := some 72, op := Op.call { callee := Callee.builtin Builtin.append, args := #[Operand.tmp 57, Operand.tmp 71], argTypes := #[83, 83] }, type := 83, pos := "law.go:57", after := #[{ on := 0, ground := Ground.data }, { on := 14, ground := Ground.data }], guard := none }) rfl (fun K hK => ?_) AllReadyH.nil
        refine stepP _ _ V V hpw hz HLN.out rfl rfl rfl rfl ?_
        intro va wa hpa haa
        have hf := HF.out.adds hn.size haa
        have hn := Upd.newAdds hn HF.out haa
        refine hK.out _ _ (by first | exact hn | exact Upd.alloc hn _) (fun hn => ?_)
        clear hK K
        try simp only [Act.put, List.setIfInBounds_toArray, List.set_cons_zero, List.set_cons_succ]
        refine wpAnyH_take (i := 16) (oi := { dst := some 4, op := Op.assign (Operand.tmp 72), type := 83, pos := "law.go:57", after := #[{ on := 15, ground := Ground.data }, { on := 15, ground := Ground.chain }, { on := 0, ground := Ground.phase }, { on := 1, ground := Ground.phase }, { on := 2, ground := Ground.phase }, { on := 3, ground := Ground.phase }, { on := 4, ground := Ground.phase }, { on := 5, ground := Ground.phase }, { on := 6, ground := Ground.phase }, { on := 7, ground := Ground.phase }, { on := 8, ground := Ground.phase }, { on := 9, ground := Ground.phase }, { on := 10, ground := Ground.phase }, { on := 11, ground := Ground.phase }, { on := 12, ground := Ground.phase }, { on := 13, ground := Ground.phase }, { on := 14, ground := Ground.phase }, { on := 15, ground := Ground.phase }], guard := none }) (v := ?v18x15) rfl (by kernel_rfl) (by kernel_rfl) (by kernel_rfl) (fun _ _ _ h => h) (Or.inl ⟨by rfl, ?y18x15⟩) hn ?r18x15
        case y18x15 => (intro wS hS; (try go_simp); (try with_reducible rfl))
        try simp only [Act.put, List.setIfInBounds_toArray, List.set_cons_zero, List.set_cons_succ]
        refine wpAnyH_done (by kernel_rfl) ?_ _
        refine NoPanic.normal ?_
        go_wp2_with fail
        go_roundg (ps.length - (i + 1))
        case measure => omega
        case rel =>
          refine ⟨i + 1, rfl, by go_num, by omega, ?_, hn, hf⟩
          rw [HNX.out, HPK.out.1 (HB.out.1 (by first | rfl | trivial))]
          exact hpa
      | false =>
        go_wp2_with fail
        go_roundg (ps.length - (i + 1))
        case measure => omega
        case rel =>
          refine ⟨i + 1, rfl, by go_num, by omega, ?_, HN3.out, HF.out⟩
          rw [HNX.out, HPK.out.2 (fun h => by have := HB.out.2 h; simp at this), List.append_nil]
          exact HPP.out.new hn3
    · obtain rfl : i = ps.length := by omega
      go_wp2_with fail
      go_ret
      refine ⟨_, rfl, ?_, HW.out⟩
      rw [HL.out]
      have := HPP.out.rdp
      rw [List.take_length] at this
      exact this

/-- the function value of a want answers which numbers may stand -/
theorem want_any (x : Wnt) (pv : Value) (Bw : Nat) (r : Int) (w : World) (hx : WantOk x pv w) (hb : w.heap[Bw]? = some (.cells (valW x pv) 47)) (h0 : 0 ≤ r) (h1 : r ≤ 1099511627776) :
    Wants 49 #[.pointer (some ⟨Bw, 0, none⟩)] (wantL x) r w := by
  rcases hx.kind with hk | hk | hk | hk
  · exact want0 x pv Bw r w hx hb h0 h1 hk
  · exact want1 x pv Bw r w hx hb h0 h1 hk
  · exact want2 x pv Bw r w hx hb h0 h1 hk
  · exact want3 x pv Bw r w hx hb hk
theorem wantL_few {x : Wnt} {pv : Value} {w : World} (hx : WantOk x pv w) (r : Int) : Few (wantL x r) := by
  unfold wantL
  split
  · split
    · exact few1 _ _ hx.fine.lo hx.fine.hi
    · exact ⟨by simp, fun i h => by simp at h⟩
  · split
    · have := counts_small x.i1 x.i2 x.b1 x.b2 r
      exact few1 _ _ (by omega) (by omega)
    · split
      · have := sizes_small x.o1 x.o2 x.b1 x.b2 r
        exact few1 _ _ (by omega) (by omega)
      · have hl := pickL_len r x.picks
        refine ⟨Nat.le_trans hl hx.few, fun i h => ?_⟩
        have hm : (x.picks.flatMap (pickL r))[i] ∈ x.picks.flatMap (pickL r) := List.getElem_mem _
        obtain ⟨y, hy, hz⟩ := List.mem_flatMap.1 hm
        have hn := hx.num y hy
        have he : (x.picks.flatMap (pickL r))[i] = (y.1, y.1) := by
          generalize (x.picks.flatMap (pickL r))[i] = z at hz
          unfold pickL at hz
          split at hz
          · simpa using hz
          · simp at hz
        show ((x.picks.flatMap (pickL r))[i]).1 < _ ∧ ((x.picks.flatMap (pickL r))[i]).2 < _
        rw [he]
        exact ⟨hn, hn⟩
/-- what it answers is what the document allows -/
theorem wantL_may {x : Wnt} {pv : Value} {w : World} (hx : WantOk x pv w) (r : Int) (n : Nat) (h0 : 0 ≤ r) (h1 : r ≤ 1099511627776) (hn : n < 4294967296) : inW (wantL x) r n ↔ x.may r n := by
  unfold inW wantL Wnt.may
  simp only [h0, hn, true_and]
  rcases hx.kind with hk | hk | hk | hk
  · rw [if_pos hk, if_pos hk]
    split
    · rename_i h; simp [h]
    · rename_i h; simp [h]
  · have hc := Span.counts_makes (n := n) (hx.fine.item hk) (hx.fine.beh (.inr (.inl hk))) h0 h1 (by omega) (by omega)
    have hs := counts_small x.i1 x.i2 x.b1 x.b2 r
    rw [if_neg (by omega), if_pos hk, if_neg (by omega), if_pos hk]
    rw [hc]
    simp only [List.mem_singleton, exists_eq_left]
    omega
  · have hc := Span.sizes_parts (v := n) (hx.fine.own hk) (hx.fine.beh (.inr (.inr hk))) h0 h1 (by omega) (by omega)
    have hs := sizes_small x.o1 x.o2 x.b1 x.b2 r
    rw [if_neg (by omega), if_neg (by omega), if_pos hk, if_neg (by omega), if_neg (by omega), if_pos hk]
    rw [hc]
    simp only [List.mem_singleton, exists_eq_left]
    omega
  · rw [if_neg (by omega), if_neg (by omega), if_neg (by omega), if_neg (by omega), if_neg (by omega), if_neg (by omega)]
    constructor
    · rintro ⟨z, hz, h2, h3⟩
      obtain ⟨y, hy, hz⟩ := List.mem_flatMap.1 hz
      split at hz
      · rename_i hh
        simp only [List.mem_singleton] at hz
        subst hz
        exact ⟨y, hy, by simp only at h2 h3; omega, hh⟩
      · simp at hz
    · rintro ⟨y, hy, rfl, hh⟩
      exact ⟨(y.1, y.1), List.mem_flatMap.2 ⟨y, hy, by rw [if_pos hh]; simp⟩, Nat.le_refl _, Nat.le_refl _⟩
end Go.Proofs.Ytkfohickmdkplaa

namespace Go.Proofs.Cur
open Go.Proofs.Leb Go.Proofs.Span

theorem byteO_congr {bs : List UInt8} {lim : Int} {may may' : UInt8 → Int → Prop} {p : Nat} (hi : Inv bs.length lim p) (h : ∀ x r, 0 ≤ r → r ≤ 1099511627776 → (may x r ↔ may' x r)) : byteO bs lim may p = byteO bs lim may' p := by
  unfold byteO
  by_cases h0 : rest lim p = 0
  · rw [if_pos h0, if_pos h0]
  · rw [if_neg h0, if_neg h0]
    by_cases hp : p < bs.length
    · rw [dif_pos hp, dif_pos hp]
      have hr := (hi.next h0 hp).rest
      have hc := h bs[p] _ hr.1 hr.2
      by_cases hm : may bs[p] (rest lim (p + 1))
      · rw [if_pos hm, if_pos (hc.1 hm)]
      · rw [if_neg hm, if_neg (fun g => hm (hc.2 g))]
    · rw [dif_neg hp, dif_neg hp]
theorem byteO_inv' {bs : List UInt8} {lim : Int} {may : UInt8 → Int → Prop} {p q : Nat} {x : UInt8} (hi : Inv bs.length lim p) (h : byteO bs lim may p = .ok x q) : Inv bs.length lim q := by
  unfold byteO at h
  split at h
  · cases h
  · split at h
    · split at h
      · cases h; exact hi.next (by assumption) (by assumption)
      · cases h
    · cases h
theorem numO_congr {bs : List UInt8} {lim : Int} {may may' : List UInt8 → UInt8 → Int → Prop} (h : ∀ ds x r, 0 ≤ r → r ≤ 1099511627776 → (may ds x r ↔ may' ds x r)) : ∀ (n : Nat) (ds : List UInt8) (p : Nat), Inv bs.length lim p → numO bs lim may n ds p = numO bs lim may' n ds p
  | 0, _, _, _ => rfl
  | n + 1, ds, p, hi => by
    unfold numO
    rw [byteO_congr hi (h ds)]
    cases hb : byteO bs lim (may' ds) p with
    | up q er => rfl
    | ok x q =>
      simp only [Out.bind]
      split
      · rfl
      · exact numO_congr h n _ q (byteO_inv' hi hb)
theorem comes_congr {f g : Nat → Int → Prop} (h : ∀ m r, 0 ≤ r → r ≤ 1099511627776 → (f m r ↔ g m r)) (x most : Nat) (r : Int) (h0 : 0 ≤ r) (h1 : r ≤ 1099511627776) : comes f x most r ↔ comes g x most r := by
  unfold comes
  split
  · exact h 0 r h0 h1
  · constructor
    · rintro ⟨j, a, b, c, d⟩
      exact ⟨j, a, b, c, (h j _ (by unfold behind; split <;> omega) (by unfold behind; split <;> omega)).1 d⟩
    · rintro ⟨j, a, b, c, d⟩
      exact ⟨j, a, b, c, (h j _ (by unfold behind; split <;> omega) (by unfold behind; split <;> omega)).2 d⟩
theorem uintO_congr {bs : List UInt8} {lim : Int} {S S' : Int → Nat → Prop} {p : Nat} (hi : Inv bs.length lim p) (h : ∀ r n, 0 ≤ r → r ≤ 1099511627776 → n < 4294967296 → (S r n ↔ S' r n)) : uintO bs lim S p = uintO bs lim S' p := by
  refine numO_congr (fun ds x r h0 h1 => ?_) _ _ _ hi
  unfold mayU
  refine comes_congr (fun m r h0 h1 => ?_) _ _ _ h0 h1
  unfold fits
  constructor
  · rintro ⟨n, a, b, c⟩; exact ⟨n, (h r n h0 h1 b).1 a, b, c⟩
  · rintro ⟨n, a, b, c⟩; exact ⟨n, (h r n h0 h1 b).2 a, b, c⟩
theorem sintO_congr {bs : List UInt8} {lim : Int} {S S' : Int → Prop} {bits p : Nat} (hi : Inv bs.length lim p) (h : ∀ r, 0 ≤ r → r ≤ 1099511627776 → (S r ↔ S' r)) : sintO bs lim S bits p = sintO bs lim S' bits p := by
  refine numO_congr (fun ds x r h0 h1 => ?_) _ _ _ hi
  unfold mayS
  refine comes_congr (fun m r h0 h1 => ?_) _ _ _ h0 h1
  rw [h r h0 h1]
theorem has_hasR {mn mx r : Int} (hr : right mn mx) (h0 : 0 ≤ r) (h1 : r ≤ 1099511627776) : Span.has mn mx r = true ↔ hasR mn mx r := by
  obtain ⟨a, b, c, d⟩ := hr
  unfold Span.has hasR
  simp only [Bool.and_eq_true, Bool.or_eq_true, decide_eq_true_eq]
  split <;> omega
end Go.Proofs.Cur
namespace Go.Proofs.Ytkfohickmdkplaa
open Go.RowKit Go.Proofs.Leb Go.Proofs.Own Go.Proofs.Cur Go.Proofs.Span

/-- a text's length: two ways to ask for it -/
theorem len_may {b1 b2 r : Int} {n : Nat} (hb : Span.right b1 b2) (h0 : 0 ≤ r) (h1 : r ≤ 1099511627776) (hn : n < 4294967296) : inW (sizesW b1 b2) r n ↔ (lenW b1 b2).may r n := by
  have hs := sizes_small 0 1099511627776 b1 b2 r
  have hp := Span.sizes_parts (oMin := 0) (oMax := 1099511627776) (v := n) (by unfold Span.right; omega) hb h0 h1 (by omega) (by omega)
  have e : inW (sizesW b1 b2) r n ↔ parts 0 1099511627776 b1 b2 r n = true := by
    rw [hp]
    unfold inW sizesW
    simp only [List.mem_singleton, exists_eq_left]
    omega
  rw [e]
  obtain ⟨a, b, c, d⟩ := hb
  have e1 : parts 0 1099511627776 b1 b2 r n = true ↔ (r < 1099511627776 → (n : Int) ≤ r) ∧ (1099511627776 ≤ r → 1099511627776 ≤ b2) ∧ (r < 1099511627776 → b1 ≤ r - n ∧ (1099511627776 ≤ b2 ∨ r - n ≤ b2)) := by
    have hh : Span.has 0 1099511627776 n = true := by unfold Span.has; simp
    unfold parts
    by_cases q1 : r < 1099511627776 ∧ r < (n : Int)
    · rw [if_pos (.inr q1)]
      simp only [Bool.false_eq_true, false_iff]
      omega
    · rw [if_neg (by rw [hh]; simpa using q1)]
      by_cases q2 : 1099511627776 ≤ r
      · rw [if_pos q2, decide_eq_true_eq]
        omega
      · rw [if_neg q2]
        unfold Span.has
        simp only [Bool.and_eq_true, Bool.or_eq_true, decide_eq_true_eq]
        omega
  have e2 : makes 1 1 b1 b2 r n = true ↔ ((n : Int) + b1 ≤ r ∧ (1099511627776 ≤ most n b2 ∨ r ≤ most n b2)) ∧ (r < 1099511627776 ∨ 1099511627776 ≤ most n b2) := by
    have m1 : (if (n : Int) ≤ 0 then 0 else mul n 1) = (n : Int) := by unfold mul; rw [Int.mul_one]; split <;> (try split) <;> omega
    have m2 : (if (n : Int) ≤ 0 then 0 else if (1099511627776 : Int) ≤ 1 then 1099511627776 else mul n 1) = (n : Int) := by rw [if_neg (by decide : ¬ (1099511627776 : Int) ≤ 1)]; exact m1
    unfold makes
    simp only [m1, m2]
    unfold Span.has
    simp only [Bool.and_eq_true, Bool.or_eq_true, decide_eq_true_eq]
  have e3 : (lenW b1 b2).may r n ↔ makes 1 1 b1 b2 r n = true := by
    unfold Wnt.may lenW
    simp only [show ¬ ((1 : Int) = 0) by decide, if_false, if_true, h0, hn, true_and]
  rw [e1, e3, e2]
  unfold Span.most
  split <;> omega
theorem nameO_nameS {bs : List UInt8} {lim b1 b2 : Int} {p : Nat} (hi : Inv bs.length lim p) (hb : Span.right b1 b2) : nameO bs lim b1 b2 p = nameS bs lim (lenW b1 b2).may p := by
  unfold nameO nameS
  rw [uintO_congr hi (fun r n h0 h1 hn => len_may hb h0 h1 hn)]
end Go.Proofs.Ytkfohickmdkplaa
