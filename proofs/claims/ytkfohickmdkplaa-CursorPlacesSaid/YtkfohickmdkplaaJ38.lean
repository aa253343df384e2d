/-
  The cursor: a digit of a number with a sign: may it stand?
-/
import Derived.Test.YtkfohickmdkplaaJ20
namespace Go.Proofs.Ytkfohickmdkplaa
open Go.RowKit Go.Proofs.Leb Go.Proofs.Own Go.Proofs.Cur
set_option maxRecDepth 100000
set_option maxHeartbeats 4000000

theorem alike_ok (x b : Nat) : okS x b = true ↔ alike x b := by unfold okS alike; simp

theorem alike_any (x b : Nat) (w : World) (_ : x < 256) (h1 : 1 ≤ b) (h2 : b ≤ 7) : Calls Try.prog 56 #[.int .u8 x, .int .i64 b] w (Yes (alike x b) w) := by
  have H := hid (okS_int x b)
  have HA := hid (alike_ok x b)
  by_cases h0 : ((x : Int) / 2 ^ (b - 1)) = 0
  · have HT : Hid (okS x b = true) := by show okS x b = true; rw [← H.out, h0]; rfl
    go_enter Try.func56, Try.ntmps56
    go_wp2_with fail
    go_ret
    exact ⟨true, rfl, by rw [← HA.out, HT.out], Upd.refl _ _⟩
  · have hb0 : (((x : Int) / 2 ^ (b - 1)) == 0) = false := by simpa using h0
    have HH := H.out
    rw [hb0, Bool.false_or] at HH
    have HHH := hid HH
    clear HH h0
    go_enter Try.func56, Try.ntmps56
    go_wp2_with fail
    go_ret
    refine ⟨_, rfl, ?_, Upd.refl _ _⟩
    rw [← HA.out, ← HHH.out]

/-- what a digit of a number with a sign asks besides -/
def sgn (mn mx : Int) (bits k x : Nat) (more : Nat) (r : Int) : Prop := Span.has mn mx r = true ∧ (0 < more ∨ k < (bits - 1) / 7 ∨ alike x (bits - 7 * k))

theorem Sint11_any (more k bits x Bb Bk Bl Bx Bt : Nat) (mn mx r : Int) (w : World) (hm : more ≤ 10) (hk : k ≤ (bits - 1) / 7) (hb1 : 1 ≤ bits) (hb : bits ≤ 64) (hx : x < 256)
    (c0 : w.cell? ⟨Bb, 0, none⟩ = some (.int .i64 mn)) (c1 : w.cell? ⟨Bb, 1, none⟩ = some (.int .i64 mx)) (ck : w.cell? ⟨Bk, 0, none⟩ = some (.int .i64 k)) (cl : w.cell? ⟨Bl, 0, none⟩ = some (.int .i64 ((bits - 1) / 7 : Nat)))
    (cx : w.cell? ⟨Bx, 0, none⟩ = some (.int .u8 x)) (ct : w.cell? ⟨Bt, 0, none⟩ = some (.int .i64 bits)) :
    Calls Try.prog 54 #[.int .i64 more, .int .i64 r, .pointer (some ⟨Bb, 0, none⟩), .pointer (some ⟨Bk, 0, none⟩), .pointer (some ⟨Bl, 0, none⟩), .pointer (some ⟨Bx, 0, none⟩), .pointer (some ⟨Bt, 0, none⟩)] w (Yes (sgn mn mx bits k x more r) w) := by
  have HH := hid (fun w => has_any mn mx r w)
  obtain ⟨l, hl⟩ : ∃ l, (bits - 1) / 7 = l := ⟨_, rfl⟩
  have HS : Hid (sgn mn mx bits k x more r ↔ Span.has mn mx r = true ∧ (0 < more ∨ k < l ∨ alike x (bits - 7 * k))) := by show _ ↔ _; unfold sgn; rw [hl]
  obtain ⟨hb', hhb⟩ : ∃ b, Span.has mn mx r = b := ⟨_, rfl⟩
  rw [hhb] at HS HH
  rw [hl] at cl hk
  have HK := hid ck
  have HL := hid cl
  have HX := hid cx
  have HT := hid ct
  cases hb' with
  | false =>
    clear hhb
    go_enter Try.func54, Try.ntmps54
    go_wp2_with fail
    refine (HH.out _).mono ?_
    rintro e w1 ⟨rfl, hn⟩
    have HN := hid hn
    clear hn
    go_wp2_with fail
    go_ret
    exact ⟨false, rfl, by rw [HS.out]; simp, HN.out⟩
  | true =>
    have HC := hid (⟨ck, cl, cx, ct⟩ : _ ∧ _ ∧ _ ∧ _)
    have HB : Hid (bits - 7 * k = bits - 7 * k) := hid rfl
    by_cases h0 : (0 : Int) < more
    · clear hhb hl ck cl cx ct
      go_enter Try.func54, Try.ntmps54
      go_wp2_with fail
      refine (HH.out _).mono ?_
      rintro e w1 ⟨rfl, hn⟩
      have HN := hid hn
      clear hn
      go_wp2_with fail
      go_ret
      exact ⟨true, rfl, by rw [HS.out]; simp; omega, HN.out⟩
    · by_cases h1 : k < l
      · clear hhb hl ck cl cx ct
        go_enter Try.func54, Try.ntmps54
        go_wp2_with fail
        refine (HH.out _).mono ?_
        rintro e w1 ⟨rfl, hn⟩
        have HN := hid hn
        have ck := hn.cell HK.out (fun h => h)
        have cl := hn.cell HL.out (fun h => h)
        clear hn
        go_wp2_with fail
        go_ret
        exact ⟨true, rfl, by rw [HS.out]; simp; omega, HN.out⟩
      · have h2 : ¬ ((k : Int) < (l : Int)) := by omega
        obtain ⟨z, hz⟩ : ∃ z, bits - 7 * k = z := ⟨_, rfl⟩
        rw [hz] at HS
        have hzi : (bits : Int) - 7 * (k : Int) = (z : Int) := by omega
        have HA := hid (fun w => alike_any x z w hx (by omega) (by omega))
        have k1 : k ≤ 9 := by omega
        have HZ := hid hz
        clear hhb hl ck cl cx ct hz HB
        go_enter Try.func54, Try.ntmps54
        go_wp2_with fail
        refine (HH.out _).mono ?_
        rintro e w1 ⟨rfl, hn⟩
        have HN := hid hn
        have ck := hn.cell HK.out (fun h => h)
        have cl := hn.cell HL.out (fun h => h)
        have cx := hn.cell HX.out (fun h => h)
        have ct := hn.cell HT.out (fun h => h)
        clear hn
        go_wp2_with fail
        refine (HA.out _).mono ?_
        rintro e w2 ⟨b, rfl, hb, hn2⟩
        have HB := hid hb
        clear hb
        go_wp2_with fail
        go_ret
        refine ⟨b, rfl, ?_, New.trans HN.out hn2⟩
        rw [HS.out, HB.out]
        simp only [true_and]
        constructor
        · intro h; exact .inr (.inr h)
        · rintro (h | h | h)
          · omega
          · omega
          · exact h

theorem Sint1_any (bits Bb Bk Bl Bt : Nat) (ds : List UInt8) (x : UInt8) (mn mx r : Int) (w : World) (r0 : 0 ≤ r) (r1 : r ≤ 1099511627776) (hk : ds.length ≤ (bits - 1) / 7) (hb1 : 1 ≤ bits) (hb : bits ≤ 64)
    (c0 : w.cell? ⟨Bb, 0, none⟩ = some (.int .i64 mn)) (c1 : w.cell? ⟨Bb, 1, none⟩ = some (.int .i64 mx)) (ck : w.cell? ⟨Bk, 0, none⟩ = some (.int .i64 ds.length)) (cl : w.cell? ⟨Bl, 0, none⟩ = some (.int .i64 ((bits - 1) / 7 : Nat)))
    (ct : w.cell? ⟨Bt, 0, none⟩ = some (.int .i64 bits)) :
    Calls Try.prog 53 #[cb x, .int .i64 r, .pointer (some ⟨Bl, 0, none⟩), .pointer (some ⟨Bk, 0, none⟩), .pointer (some ⟨Bb, 0, none⟩), .pointer (some ⟨Bt, 0, none⟩)] w
      (Yes (mayS (fun r => Span.has mn mx r = true) bits ds x r) w) := by
  obtain ⟨k, hkk⟩ : ∃ k, ds.length = k := ⟨_, rfl⟩
  obtain ⟨l, hl⟩ : ∃ l, (bits - 1) / 7 = l := ⟨_, rfl⟩
  have HMS : Hid (mayS (fun r => Span.has mn mx r = true) bits ds x r ↔ comes (sgn mn mx bits k x.toNat) x.toNat (l - k) r) := by
    show _ ↔ _
    unfold mayS sgn
    rw [hkk, hl]
  rw [hkk, hl] at hk
  rw [hkk] at ck
  have hx := u8_lt x
  have hn0 : New w (w.alloc (.cells #[.int .u8 x.toNat] 5)) := (Upd.refl _ _).alloc _
  have hx0 : One1 (w.alloc (.cells #[.int .u8 x.toNat] 5)) w.heap.size (.int .u8 x.toNat) := .mk rfl
  have HC := hid (comes_any x.toNat (l - k) r 54 #[.pointer (some ⟨Bb, 0, none⟩), .pointer (some ⟨Bk, 0, none⟩), .pointer (some ⟨Bl, 0, none⟩), .pointer (some ⟨w.heap.size, 0, none⟩), .pointer (some ⟨Bt, 0, none⟩)] (fun _ _ => rfl)
    (sgn mn mx bits k x.toNat) (w.alloc (.cells #[.int .u8 x.toNat] 5)) hx (by omega) r0 r1
    (fun j r' w2 hn2 hj hr0 hr1 _ => Sint11_any j k bits x.toNat Bb Bk Bl w.heap.size Bt mn mx r' w2 (by omega) (by rw [hl]; exact hk) hb1 hb hx ((hn0.trans hn2).cell c0 (fun h => h)) ((hn0.trans hn2).cell c1 (fun h => h))
      ((hn0.trans hn2).cell ck (fun h => h)) ((hn0.trans hn2).cell cl (fun h => h)) (hx0.new hn2).c ((hn0.trans hn2).cell ct (fun h => h))))
  have e4 : (l : Int) - (k : Int) = ((l - k : Nat) : Int) := by omega
  have ck2 := hn0.cell ck (fun h => h)
  have cl2 := hn0.cell cl (fun h => h)
  rw [hl] at cl2
  have cx2 := hx0.c
  have HN0 := hid hn0
  have l64 : l ≤ 9 := by omega
  have HL := hid hl
  clear c0 c1 ck cl ct hkk hl hn0 hx0
  unfold cb
  go_enter Try.func53, Try.ntmps53
  go_wp2_with fail
  refine HC.out.mono ?_
  rintro e w2 ⟨b, rfl, hb, hn2⟩
  have HB := hid hb
  clear hb
  go_wp2_with fail
  go_ret
  exact ⟨b, rfl, HB.out.trans HMS.out.symm, New.trans HN0.out hn2⟩
end Go.Proofs.Ytkfohickmdkplaa
