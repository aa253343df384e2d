/-
  LebPuts.
-/
import Derived.Test.YtlmimlnflcfccaaLebA
import Derived.Test.YtlmimlnflcfccaaFrm
namespace Go.Proofs.Ytlmimlnflcfccaa
open Go.RowKit Go.Proofs.Leb Go.Proofs.Own
set_option maxRecDepth 100000
set_option maxHeartbeats 2000000

theorem lebPuts_walk (v : Value) (bs : List UInt8) (n : Int) (w : World) (hr : Rd w v bs) (hb : bs.length ≤ 9223372036854775807) (n1 : 0 ≤ n) (n2 : n < 18446744073709551616) :
    Calls Try.prog 3 #[v, .int .u64 n] w (True' w) := by
  have HR := hid hr
  obtain ⟨x, rfl⟩ := Int.eq_ofNat_of_zero_le n1
  have hx : x < 18446744073709551616 := by omega
  obtain ⟨y, hy, hy1, hy2⟩ : ∃ y, wrap64 (x : Int) = y ∧ -9223372036854775808 ≤ y ∧ y ≤ 9223372036854775807 := ⟨_, rfl, by unfold wrap64; omega, by unfold wrap64; omega⟩
  obtain ⟨a, cap, rfl, -⟩ := hr
  by_cases hl : (60 : Int) < bs.length
  · go_enter Try.func3, Try.ntmps3
    go_wp2_with fail
    go_ret
    exact ⟨rfl, Upd.refl _ _⟩
  · have hl8 : bs.length ≤ 100 := by omega
    go_enter Try.func3, Try.ntmps3
    go_wp2_with fail
    refine (refPutU_any _ bs x 0 w hx (by decide) (by omega) HR.out).mono ?_
    rintro e w1 ⟨v1, rfl, hb1, hn1, hf1⟩
    have HR1 := hid (HR.out.new hn1)
    go_wp2_with fail
    refine (refPutS_any _ bs y 0 w1 hy1 hy2 (by decide) (by omega) HR1.out).mono ?_
    rintro e w2 ⟨v2, rfl, hb2, hn2, hf2⟩
    have HR2 := hid (HR1.out.new hn2)
    have hb12 := hb1.new hn2
    have hn12 := New.trans hn1 hn2
    clear hb1 hn1 hf1 hf2 hn2
    go_wp2_with fail
    have HB1 := hid hb12
    have HB2 := hid hb2
    clear hb12 hb2
    obtain ⟨L1, hL1⟩ : ∃ L, L = bs ++ encU x 0 := ⟨_, rfl⟩
    obtain ⟨L2, hL2⟩ : ∃ L, L = bs ++ encS y 0 := ⟨_, rfl⟩
    rw [← hL1] at HB1
    rw [← hL2] at HB2
    have l1 : L1.length = bs.length + (encU x 0).length := by rw [hL1, List.length_append]
    have l2 : L2.length = bs.length + (encS y 0).length := by rw [hL2, List.length_append]
    have g1 := encU_len_le 10 x (by decide) (Nat.lt_trans hx (by decide))
    have g2 := encS_len_le 10 y (by decide) (by omega) (by omega)
    have e1 : IntKind.i64.wrap ((L1.length : Int) - bs.length) = ((encU x 0).length : Int) := by rw [IntWalk.i64_in _ (by omega)]; omega
    have e2 : IntKind.i64.wrap ((L2.length : Int) - bs.length) = ((encS y 0).length : Int) := by rw [IntWalk.i64_in _ (by omega)]; omega
    have HL1 := hid hL1
    have HL2 := hid hL2
    clear hL1 hL2 l1 l2
    obtain ⟨a1, c1, rfl⟩ := HB1.out.rd.shape
    obtain ⟨a2, c2, rfl⟩ := HB2.out.rd.shape
    have HK : Hid (∀ w', New w2 w' → New w2 w' ∧ (convert 22 9 (.slice a1 L1.length c1)).run Try.prog w' = .ok (.string ⟨L1.toArray⟩) w' ∧ (convert 22 9 (.slice a2 L2.length c2)).run Try.prog w' = .ok (.string ⟨L2.toArray⟩) w') :=
      fun w' h => ⟨h, (HB1.out.new h).rd.str, (HB2.out.new h).rd.str⟩
    have HL : bs.length ≤ 100000000 := by omega
    have hy' : IntKind.i64.wrap (x : Int) = y := by rw [IntWalk.i64_left]; exact hy
    have hn : New w2 w2.drew := (Upd.refl _ _).drew
    go_region_held3 (fun w' => New w2 w' ∧ (convert 22 9 (.slice a1 L1.length c1)).run Try.prog w' = .ok (.string ⟨L1.toArray⟩) w' ∧ (convert 22 9 (.slice a2 L2.length c2)).run Try.prog w' = .ok (.string ⟨L2.toArray⟩) w')
      ((refine HK.out _ ?_; first | exact hn | exact Upd.alloc hn _))
      (first
        | (go_at_call 18; refine (putU_any _ bs x _ hx HL hba).mono ?_; rintro e wa ⟨vb, rfl, hbb, hab⟩; have hn := Upd.newAdds hn hf hab; rw [← HL1.out] at hbb; have hs := hbb.rd.str)
        | (go_at_call 19; refine (putS_any _ bs y _ hy1 hy2 HL hba).mono ?_; rintro e wa ⟨vb, rfl, hbb, hab⟩; have hn := Upd.newAdds hn hf hab; rw [← HL2.out] at hbb; have hs := hbb.rd.str)
        | (go_at_call 20; refine (sizeU_any x _ hx).mono ?_; rintro e wa ⟨rfl, rfl⟩)
        | (go_at_call 21; refine (sizeS_any y _ hy1 hy2).mono ?_; rintro e wa ⟨rfl, rfl⟩)
        | (go_at_call 22; refine (awake1_any _).mono ?_; rintro e wa ⟨rfl, hna⟩; have hn := New.trans hn hna)
        | (refine stepR _ _ (Bytes.made _) (HR2.out.new (Upd.alloc hn _)) ?_ rfl rfl rfl rfl ?_; (simp only [List.length_nil]; omega); intro va wa hba haa; rw [List.nil_append] at hba; obtain ⟨hn, hf⟩ := Adds.made' rfl hn haa))
    go_wp2_with fail
    go_ret
    exact ⟨rfl, New.trans hn12 hn⟩
end Go.Proofs.Ytlmimlnflcfccaa
