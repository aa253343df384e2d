/-
  The walks of texts: the document's Need.
-/
import Derived.Test.YtkfohickmdkplaaJ27
import Derived.Lib.Strings
namespace Go.Proofs.Ytkfohickmdkplaa
open Go.RowKit Go.Proofs.Own Go.Proofs.Utf
set_option maxRecDepth 100000
set_option maxHeartbeats 2000000

theorem need_sign {x : UInt8} {t : List UInt8} {q : Nat} (h : sign (x :: t) q = true) : need (x :: t) = if t.length < q then (q - t.length, true) else need (t.drop q) := by
  unfold sign at h
  dsimp only at h
  rw [need]
  cases hc : cls x.toNat with
  | none => rw [hc] at h; cases h
  | some p =>
    obtain ⟨m, lo, hi⟩ := p
    rw [hc] at h
    simp only [Bool.and_eq_true, decide_eq_true_eq] at h
    obtain ⟨rfl, h⟩ := h
    dsimp only
    rw [if_pos h]
theorem need_no {x : UInt8} {t : List UInt8} (h : ∀ q, q < 4 → sign (x :: t) q = false) : need (x :: t) = (0, false) := by
  rw [need]
  have h0 := h
  unfold sign at h
  dsimp only at h
  rcases cls_cases x.toNat with ⟨_, e⟩ | ⟨_, e⟩ | ⟨_, e⟩ | ⟨_, e⟩ | ⟨_, e⟩ | ⟨_, e⟩ | ⟨_, e⟩ | ⟨_, e⟩ | ⟨_, e⟩
  · have := h 0 (by omega)
    rw [e] at this
    simp only [decide_true, Bool.true_and] at this
    cases t <;> cases this
  · rw [e]
  · have := h 1 (by omega)
    rw [e] at this ⊢
    simp only [decide_true, Bool.true_and] at this
    dsimp only; rw [this]; rfl
  · have := h 2 (by omega)
    rw [e] at this ⊢
    simp only [decide_true, Bool.true_and] at this
    dsimp only; rw [this]; rfl
  · have := h 2 (by omega)
    rw [e] at this ⊢
    simp only [decide_true, Bool.true_and] at this
    dsimp only; rw [this]; rfl
  · have := h 2 (by omega)
    rw [e] at this ⊢
    simp only [decide_true, Bool.true_and] at this
    dsimp only; rw [this]; rfl
  · have := h 3 (by omega)
    rw [e] at this ⊢
    simp only [decide_true, Bool.true_and] at this
    dsimp only; rw [this]; rfl
  · have := h 3 (by omega)
    rw [e] at this ⊢
    simp only [decide_true, Bool.true_and] at this
    dsimp only; rw [this]; rfl
  · have := h 3 (by omega)
    rw [e] at this ⊢
    simp only [decide_true, Bool.true_and] at this
    dsimp only; rw [this]; rfl

theorem begins_any (s : ByteArray) (j : Nat) (w : World) (h1 : 1 ≤ j) (h4 : j ≤ 4) (hs0 : 0 < s.size) (hs : s.size ≤ 9223372036854775807) :
    Calls Try.prog 76 #[.string s, .int .i64 j] w fun e w' => e = .returned (.bool (sign s.data.toList (j - 1))) ∧ New w w' := by
  have : j = 1 ∨ j = 2 ∨ j = 3 ∨ j = 4 := by omega
  rcases this with rfl | rfl | rfl | rfl
  · exact begins1_any s w hs0 hs
  · exact begins2_any s w hs0 hs
  · exact begins3_any s w hs0 hs
  · exact begins4_any s w hs0 hs

theorem sub_list (s : ByteArray) (k : Nat) : (s.extract k s.size).data.toList = s.data.toList.drop k ∧ (s.extract k s.size).size = s.size - k := by
  constructor
  · simp only [ByteArray.data_extract, Array.toList_extract, List.extract_eq_take_drop]
    exact List.take_of_length_le (by simp)
  · simp

theorem rNeed_any (s : ByteArray) (w : World) (hs : s.size ≤ 1000000000) :
    Calls Try.prog 65 #[.string s] w fun e w' => e = .returned (.tuple #[.int .i64 (need s.data.toList).1, .bool (need s.data.toList).2]) ∧ New w w' := by
  obtain ⟨r, hr⟩ : ∃ r, need s.data.toList = r := ⟨_, rfl⟩
  rw [hr]
  have HR := hid hr
  have hlen : s.data.toList.length = s.size := by simp
  have HLEN := hid hlen
  clear hr hlen
  go_enter Try.func65, Try.ntmps65
  go_wp2_with fail
  go_loopg [4, 5, 6] s.size (fun k a _ _ wr => ∃ i : Nat, k = s.size - i ∧ a = .int .i64 i ∧ i ≤ s.size ∧ New w wr ∧ need (s.data.toList.drop i) = r)
  case atStart => exact ⟨0, by simp, rfl, Nat.zero_le _, Upd.refl _ _, HR.out⟩
  case round =>
    obtain ⟨i, rfl, rfl, hi, hw, hn⟩ := hrel
    obtain ⟨wo, rfl⟩ : ∃ wo : World, wo = wr := ⟨_, rfl⟩
    have HN := hid hn
    have HW := hid hw
    clear hn hw
    by_cases hlt : i < s.size
    · have hd := drop_at s i hlt
      obtain ⟨x, hx⟩ : ∃ x, s[i] = x := ⟨_, rfl⟩
      rw [hx] at hd
      obtain ⟨t, ht⟩ : ∃ t, s.data.toList.drop (i + 1) = t := ⟨_, rfl⟩
      have htl : t.length = s.size - (i + 1) := by rw [← ht, List.length_drop, HLEN.out]
      rw [ht] at hd
      have HD := hid hd
      have HTL := hid htl
      have HDQ : Hid (∀ q, t.drop q = s.data.toList.drop (i + q + 1)) := by
        intro q
        rw [← ht, List.drop_drop]
        congr 1; omega
      have hn2 := HN.out
      rw [hd] at hn2
      have HN2 := hid hn2
      have hsub := sub_list s i
      have HB := hid (fun j w (h1 : 1 ≤ j) (h4 : j ≤ 4) => begins_any (s.extract i s.size) j w h1 h4 (by rw [hsub.2]; omega) (by rw [hsub.2]; omega))
      rw [hsub.1, hd] at HB
      clear hsub hn2 hd hx ht htl
      go_wp2_with fail
      go_loopg [2, 3, 4, 5, 6] 4 (fun k _ _ a b c wr => ∃ j : Nat, k = 5 - j ∧ c = .int .i64 j ∧ 1 ≤ j ∧ j ≤ 5 ∧ New w wr ∧ ((a = .int .i64 i ∧ b = .bool false ∧ ∀ q, q + 1 < j → sign (x :: t) q = false) ∨
        (∃ i' : Nat, a = .int .i64 i' ∧ b = .bool true ∧ i < i' ∧ i' ≤ s.size ∧ need (s.data.toList.drop i') = r)))
      case atStart => exact ⟨1, rfl, rfl, by omega, by omega, HW.out, .inl ⟨rfl, rfl, fun q h => by omega⟩⟩
      case round =>
        obtain ⟨j, rfl, rfl, j1, j5, hw, hcase⟩ := hrel
        obtain ⟨wp, rfl⟩ : ∃ wp : World, wp = wr := ⟨_, rfl⟩
        have HWP := hid hw
        clear hw
        rcases hcase with ⟨rfl, rfl, hno⟩ | ⟨i', rfl, rfl, hi1, hi2, hneed⟩
        · have HNO := hid hno
          clear hno
          by_cases hj : j ≤ 4
          · have HB1 := hid (HB.out j wp j1 hj)
            obtain ⟨b, hb⟩ : ∃ b, sign (x :: t) (j - 1) = b := ⟨_, rfl⟩
            rw [hb] at HB1
            have HSB := hid hb
            clear hb
            go_wp2_with fail
            refine HB1.out.mono ?_
            rintro e wq ⟨rfl, hnq⟩
            have HNQ := hid (New.trans HWP.out hnq)
            clear hnq
            cases b with
            | false =>
              have HNO2 : Hid (∀ q, q + 1 < j + 1 → sign (x :: t) q = false) := fun q hq => by
                rcases Nat.lt_or_ge (q + 1) j with h | h
                · exact HNO.out q h
                · obtain rfl : q = j - 1 := by omega
                  exact HSB.out
              go_wp2_with fail
              go_roundg (5 - (j + 1))
              case measure => omega
              case rel => exact ⟨j + 1, rfl, by go_num, by omega, by omega, HNQ.out, .inl ⟨rfl, rfl, HNO2.out⟩⟩
            | true =>
              have hns := need_sign HSB.out
              rw [HN2.out, HTL.out, HDQ.out] at hns
              by_cases hov : s.size < i + j
              · have HE : Hid (r = (i + j - s.size, true)) := by
                  rw [if_pos (by omega)] at hns
                  show _ = _
                  rw [hns]
                  congr 1; omega
                have hov2 : (s.size : Int) < i + j := by omega
                have hsb : (i : Int) + j - s.size = ((i + j - s.size : Nat) : Int) := by omega
                clear hns
                go_wp2_with fail
                go_ret2
                exact ⟨by rw [HE.out]; rfl, HNQ.out⟩
              · have HE : Hid (need (s.data.toList.drop (i + j)) = r) := by
                  rw [if_neg (by omega), show i + (j - 1) + 1 = i + j by omega] at hns
                  exact hns.symm
                have hov2 : ¬ (s.size : Int) < i + j := by omega
                clear hns
                go_wp2_with fail
                go_roundg (5 - (j + 1))
                case measure => omega
                case rel => exact ⟨j + 1, rfl, by go_num, by omega, by omega, HNQ.out, .inr ⟨i + j, by go_num, rfl, by omega, by omega, HE.out⟩⟩
          · have HE : Hid (r = (0, false)) := HN2.out.symm.trans (need_no fun q hq => HNO.out q (by omega))
            have hj2 : ¬ (j : Int) ≤ 4 := by omega
            go_wp2_with fail
            go_ret2
            exact ⟨by rw [HE.out]; rfl, HWP.out⟩
        · have HE := hid hneed
          clear hneed
          go_wp2_with fail
          all_goals
            go_roundg (s.size - i')
            case measure => omega
            case rel => exact ⟨i', rfl, rfl, by omega, HWP.out, HE.out⟩
    · have HE : Hid (r = (0, true)) := by
        have e : s.data.toList.drop i = [] := List.drop_eq_nil_of_le (by rw [HLEN.out]; omega)
        have := HN.out
        rw [e, need] at this
        exact this.symm
      go_wp2_with fail
      go_ret2
      exact ⟨by rw [HE.out]; rfl, HW.out⟩
end Go.Proofs.Ytkfohickmdkplaa
