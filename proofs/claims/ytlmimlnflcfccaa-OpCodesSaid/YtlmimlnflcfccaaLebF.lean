/-
  The walk of the document's answer for numbers with a sign: taking.
-/
import Derived.Test.YtlmimlnflcfccaaLebE
import Derived.Deep.DeepCutAuto
namespace Go.Proofs.Ytlmimlnflcfccaa
open Go.RowKit Go.Proofs.Leb Go.Proofs.Own
set_option maxRecDepth 100000
set_option maxHeartbeats 2000000

def bit (x i : Nat) : Nat := x / 2 ^ i % 2
theorem okS_bits_fin : ∀ x : Fin 128, ∀ l : Fin 8, 1 ≤ l.val → (okS x.val l.val = true ↔ ∀ j : Fin 7, l.val ≤ j.val → bit x.val j.val = bit x.val (l.val - 1)) := by decide +kernel
theorem okS_bits (x l : Nat) (hx : x < 128) (h1 : 1 ≤ l) (h7 : l ≤ 7) : okS x l = true ↔ ∀ j, l ≤ j → j < 7 → bit x j = bit x (l - 1) := by
  have h := okS_bits_fin ⟨x, hx⟩ ⟨l, by omega⟩ h1
  simp only at h
  rw [h]
  exact ⟨fun h j h1 h2 => h ⟨j, h2⟩ h1, fun h j h1 => h j.val h1 j.isLt⟩

theorem sval_drop_step (l : List UInt8) (j : Nat) (h : j + 1 < l.length) : sval (l.drop j) = ((l[j].toNat % 128 : Nat) : Int) + 128 * sval (l.drop (j + 1)) := by
  rw [List.drop_eq_getElem_cons (by omega), sval_cons _ _ (by rw [List.length_drop]; omega)]
theorem sval_drop_bd (l : List UInt8) (h1 : -9223372036854775808 ≤ sval l) (h2 : sval l < 9223372036854775808) : ∀ j, j < l.length → -9223372036854775808 ≤ sval (l.drop j) ∧ sval (l.drop j) < 9223372036854775808 := by
  intro j
  induction j with
  | zero => intro _; simpa using ⟨h1, h2⟩
  | succ j ih =>
    intro hj
    have := ih (by omega)
    rw [sval_drop_step l j hj] at this
    omega
theorem sval_last (l : List UInt8) (s : Nat) (h : s + 1 = l.length) (hx : (l[s]'(by omega)).toNat < 128) : sval (l.drop s) = top (l[s]'(by omega)).toNat := by
  rw [List.drop_eq_getElem_cons (by omega), List.drop_of_length_le (by omega)]
  unfold sval top
  rw [Nat.mod_eq_of_lt hx]

theorem refS_any (v : Value) (bs : List UInt8) (wd : Nat) (w : World) (hr : Rd w v bs) (hl : bs.length ≤ 100000000) (n1 : 1 ≤ wd) (n2 : wd ≤ 64) :
    Calls Try.prog 27 #[v, .int .i64 wd] w fun e w' => e = .returned (.tuple #[.int .i64 (sV bs wd), .int .i64 (dN okS bs wd), .int .i64 (dE okS bs wd)]) ∧ w = w' := by
  have HE := hid (fun w' (h : Rd w' v bs) => refEnd_any v bs wd w' h hl n1 n2)
  have HM := hid (fun w => refMost_any wd wd w rfl n2)
  have HR := hid hr
  have hlt := decS_range bs wd n1
  have hp : (2 : Nat) ^ (wd - 1) ≤ 2 ^ 63 := Nat.pow_le_pow_right (by decide) (by omega)
  by_cases h0 : eE bs wd = 0
  · obtain ⟨hn, hs1, hs2⟩ := scan_0 bs wd h0
    have hm := most_bits wd n1
    have hm2 : most wd ≤ 10 := by unfold most; omega
    have HE2 : Hid (∀ w', Rd w' v bs → Calls Try.prog 61 #[v, .int .i64 wd] w' fun e w'' => e = .returned (.tuple #[.int .i64 ((stop bs : Int) + 1), .int .i64 0]) ∧ w' = w'') := by
      intro w' h
      have := HE.out w' h
      rw [hn, h0] at this
      exact this
    have hsc : (stop bs + 1 = most wd → okS bs[stop bs].toNat (wd - 7 * stop bs) = true) → scan okS bs wd = (stop bs + 1, 0) := fun h => scan_mk hs1 hs2 h
    have hbad : stop bs + 1 = most wd → okS bs[stop bs].toNat (wd - 7 * stop bs) = false → scan okS bs wd = (stop bs, 2) := fun h1 h2 => scan_bad (Nat.le_refl _) hs1 h1 h2
    have hx1 := stop_at bs hs1
    have hsv : sval ((bs.take (stop bs + 1)).drop (stop bs)) = top (bs[stop bs]'hs1).toNat := by
      have h := sval_last (bs.take (stop bs + 1)) (stop bs) (by rw [List.length_take]; omega) (by rw [List.getElem_take]; exact hx1)
      rw [List.getElem_take] at h
      exact h
    obtain ⟨a, cap, rfl, hcap, hn', hcell⟩ := hr
    obtain ⟨b, o, rfl, hce⟩ := hcell (by intro h; subst h; simp at hs1)
    clear hcell HE hn h0
    have hc := hce (stop bs) hs1
    unfold cb at hc
    generalize hs : stop bs = s at *
    generalize hx : bs[s] = x at *
    generalize hM : most wd = m at *
    have HX := hid hx
    have HS := hid hs
    have HMM := hid hM
    have HSC := hid hsc
    have HBAD := hid hbad
    have HCE := hid hce
    have HSV := hid hsv
    clear hx hs hM hsc hbad hce hn' hsv
    have HRG : Hid (-9223372036854775808 ≤ sV bs wd ∧ sV bs wd < 9223372036854775808) := by
      show _ ∧ _
      unfold sV
      have e63 : (2 : Nat) ^ 63 = 9223372036854775808 := by decide
      omega
    clear hlt hp
    have hbit : ∀ j : Nat, ((x.toNat : Int) / 2 ^ j).tmod 2 = (bit x.toNat j : Int) := fun j => by
      have e : ((x.toNat : Int) / 2 ^ j) = ((x.toNat / 2 ^ j : Nat) : Int) := by push_cast; rfl
      rw [e, Int.tmod_eq_emod_of_nonneg (Int.natCast_nonneg _)]
      unfold bit
      rw [Int.natCast_emod]; rfl
    go_enter Try.func27, Try.ntmps27
    go_upto_if 34 with (first | (go_at_call 61; refine (HE2.out _ HR.out).mono ?_; rintro e w' ⟨rfl, rfl⟩) | (go_at_call 62; refine (HM.out _).mono ?_; rintro e w' ⟨rfl, rfl⟩))
    go_cut [] (fun wx => w = wx ∧ (s + 1 = m → okS x.toNat (wd - 7 * s) = true))
    case first =>
      by_cases hlast : s + 1 = m
      · have hq : ((s : Int) + 1 == (m : Int)) = true := by rw [beq_iff_eq]; omega
        have HL := hid hlast
        have hw1 : 1 ≤ wd - 7 * s := by omega
        have hw2 : wd - 7 * s ≤ 7 := by omega
        have HB := hid (okS_bits x.toNat (wd - 7 * s) hx1 hw1 hw2)
        generalize hll : wd - 7 * s = l at *
        have hl2 : ((wd : Int) - 7 * s) = (l : Int) := by omega
        have hl3 : ((l : Int) - 1).toNat = l - 1 := by omega
        clear hlast hll
        go_wp2_with (first | (go_at_call 61; refine (HE2.out _ HR.out).mono ?_; rintro e w' ⟨rfl, rfl⟩) | (go_at_call 62; refine (HM.out _).mono ?_; rintro e w' ⟨rfl, rfl⟩))
        go_loop [12] (fun c => ∃ i : Nat, c = .int .i64 i ∧ l ≤ i ∧ i ≤ 7 ∧ Hid (∀ j, l ≤ j → j < i → bit x.toNat j = bit x.toNat (l - 1))) (fun c => 7 - (intOf c).toNat)
        case atStart => exact ⟨l, rfl, Nat.le_refl _, hw2, fun j h1 h2 => by omega⟩
        case round =>
          obtain ⟨i, rfl, hi1, hi2, HI⟩ := hrel
          by_cases hi : (i : Int) < 7
          · by_cases he : bit x.toNat i = bit x.toNat (l - 1)
            · have hq2 : ((bit x.toNat i : Int) != (bit x.toNat (l - 1) : Int)) = false := by rw [he]; simp
              have HE3 := hid he
              clear he
              go_wp2_with fail
              go_round
              case rel =>
                refine ⟨i + 1, by go_num, by omega, by omega, ?_⟩
                intro j h1 h2
                rcases Nat.lt_or_ge j i with h | h
                · exact HI.out j h1 h
                · have : j = i := by omega
                  subst this
                  exact HE3.out
              case measure => simp [intOf]; omega
            · have hq2 : ((bit x.toNat i : Int) != (bit x.toNat (l - 1) : Int)) = true := by rw [bne_iff_ne]; omega
              have hk : okS x.toNat l = false := by
                cases h : okS x.toNat l
                · rfl
                · exact absurd (HB.out.1 h i hi1 (by omega)) he
              have HF : Hid (sV bs wd = 0 ∧ dN okS bs wd = s ∧ dE okS bs wd = 2) := by
                have h := HBAD.out HL.out hk
                show _ ∧ _ ∧ _
                unfold sV decS dN dE
                rw [h]
                exact ⟨rfl, rfl, rfl⟩
              clear he hk
              go_wp2_with fail
              go_ret3
              exact ⟨by rw [HF.out.1, HF.out.2.1, HF.out.2.2]; rfl, rfl⟩
          · go_wp2_with fail
            go_meet
            refine ⟨rfl, fun _ => HB.out.2 fun j h1 h2 => HI.out j h1 (by omega)⟩
      · have hq : ((s : Int) + 1 == (m : Int)) = false := by rw [beq_eq_false_iff_ne]; omega
        go_wp2_with (first | (go_at_call 61; refine (HE2.out _ HR.out).mono ?_; rintro e w' ⟨rfl, rfl⟩) | (go_at_call 62; refine (HM.out _).mono ?_; rintro e w' ⟨rfl, rfl⟩))
        go_meet
        exact ⟨rfl, fun h => absurd h hlast⟩
    case rest =>
      obtain ⟨rfl, hok⟩ := hcut
      have HF : Hid (sV bs wd = sval ((bs.take (s + 1)).drop 0) ∧ dN okS bs wd = s + 1 ∧ dE okS bs wd = 0) := by
        have h := HSC.out hok
        show _ ∧ _ ∧ _
        unfold sV decS dN dE
        rw [h]
        exact ⟨by rw [if_pos rfl]; rfl, rfl, rfl⟩
      have HU : Hid (-9223372036854775808 ≤ sval (bs.take (s + 1)) ∧ sval (bs.take (s + 1)) < 9223372036854775808) := by
        have h := HF.out.1
        show _ ∧ _
        rw [List.drop_zero] at h
        rw [← h]
        exact HRG.out
      clear hok
      go_upto_if 60 with fail
      go_cut [13] (fun v wx => v = .int .i64 (top x.toNat) ∧ w = wx)
      case first =>
        by_cases h64 : 64 ≤ x.toNat
        · have HT : Hid (top x.toNat = (x.toNat : Int) - 128) := if_neg (by omega)
          go_wp2_with fail
          go_meet
          exact ⟨by rw [HT.out], rfl⟩
        · have HT : Hid (top x.toNat = (x.toNat : Int)) := if_pos (by omega)
          go_wp2_with fail
          go_meet
          exact ⟨by rw [HT.out], rfl⟩
      case rest =>
        obtain ⟨rfl, rfl⟩ := hcut
        go_wp2_with fail
        go_loop [13, 14] (fun v c => ∃ (j : Nat) (z : Int), c = .int .i64 z ∧ j ≤ s ∧ z = (j : Int) - 1 ∧ v = .int .i64 (sval ((bs.take (s + 1)).drop j))) (fun _ c => ((intOf c) + 1).toNat)
        case atStart => exact ⟨s, s + 1 - 2, rfl, Nat.le_refl _, by omega, by rw [HSV.out]⟩
        case round =>
          obtain ⟨j, z, rfl, hj, hz, rfl⟩ := hrel
          rcases j with _ | k
          · obtain rfl : z = -1 := by omega
            clear hz
            go_wp2_with fail
            go_ret3
            exact ⟨by rw [HF.out.1, HF.out.2.1, HF.out.2.2]; rfl, rfl⟩
          · obtain rfl : z = (k : Int) := by omega
            clear hz
            have hkl : k < bs.length := by omega
            have hck := HCE.out k hkl
            unfold cb at hck
            have hLl : (bs.take (s + 1)).length = s + 1 := by rw [List.length_take]; omega
            have hstep := sval_drop_step (bs.take (s + 1)) k (by omega)
            have hbd := sval_drop_bd (bs.take (s + 1)) HU.out.1 HU.out.2 k (by omega)
            rw [List.getElem_take] at hstep
            have hy := u8_lt bs[k]
            have HT : Hid (.int .i64 (sval ((bs.take (s + 1)).drop (k + 1)) * 128 + (bs[k].toNat : Int) % 128) = Value.int .i64 (sval ((bs.take (s + 1)).drop k))) := by
              show Value.int .i64 _ = Value.int .i64 _
              rw [hstep]
              congr 1
              omega
            have hV : -72057594037927936 ≤ sval ((bs.take (s + 1)).drop (k + 1)) ∧ sval ((bs.take (s + 1)).drop (k + 1)) ≤ 72057594037927935 := by omega
            obtain ⟨hV1, hV2⟩ := hV
            clear hstep hbd hc hLl
            generalize sval ((bs.take (s + 1)).drop (k + 1)) = V at *
            generalize bs[k] = y at *
            go_wp2_with fail
            go_round
            case rel => exact ⟨k, k - 1, rfl, by omega, rfl, HT.out⟩
            case measure => simp [intOf]
  · obtain ⟨e1, e2⟩ := scan_e okS bs wd h0
    have hb : ((eE bs wd : Int) != 0) = true := by rw [bne_iff_ne]; omega
    have HV : Hid (sV bs wd = 0) := by
      have : ¬ (scan okS bs wd).2 = 0 := by show ¬ dE okS bs wd = 0; omega
      show sV bs wd = 0
      unfold sV decS
      simp only [if_neg this]
    rw [HV.out, e1, e2]
    clear e1 e2 h0 hlt hr
    go_enter Try.func27, Try.ntmps27
    go_wp2_with (go_at_call 61; refine (HE.out _ HR.out).mono ?_; rintro e w' ⟨rfl, rfl⟩)
    go_ret3
    exact ⟨rfl, rfl⟩
end Go.Proofs.Ytlmimlnflcfccaa
