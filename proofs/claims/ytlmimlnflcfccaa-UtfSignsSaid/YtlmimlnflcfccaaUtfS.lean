/-
  The laws of texts: UtfSigns.
-/
import Derived.Test.YtlmimlnflcfccaaUtfL
import Derived.Test.YtlmimlnflcfccaaUtfE
import Derived.Test.YtlmimlnflcfccaaLebA
import Derived.Lib.SmallJoins
namespace Go.Proofs.Ytlmimlnflcfccaa
open Go.RowKit Go.Proofs.Own Go.Proofs.Utf
set_option maxRecDepth 100000
set_option maxHeartbeats 2000000

theorem strLit (w : World) (bs : List UInt8) (cs : Array Value) (k : Nat) (hk : bs.length = k) (h : (bs.map cb).toArray = cs) :
    (convert 22 9 (.slice (some ⟨w.heap.size, 0, none⟩) k k)).run Try.prog (w.alloc (.cells cs 5)) = .ok (.string ⟨bs.toArray⟩) (w.alloc (.cells cs 5)) := by
  subst h
  subst hk
  exact (Rd.lit w bs 5).str
theorem cbn (n : Nat) (h : n < 256) : cb (UInt8.ofNat n) = .int .u8 n := by unfold cb; rw [Utf.u8_of n h]

theorem Sign_any (n : Nat) (w : World) (hn : n < 1300000) :
    Calls Try.prog 50 #[.int .i64 n] w fun e w' => e = .returned (.string ⟨(enc n).toArray⟩) ∧ New w w' := by
  by_cases h1 : n < 128
  · have HE : enc n = [UInt8.ofNat n] := by unfold enc; rw [if_pos h1]
    have e := strLit w (enc n) #[.int .u8 n] 1 (by rw [HE]; rfl) (by rw [HE]; simp only [List.map_cons, List.map_nil, cbn _ (show n < 256 by omega)])
    clear HE
    go_enter Try.func50, Try.ntmps50
    go_wp2_with fail
    go_ret
    exact ⟨rfl, (Upd.refl _ _).alloc _⟩
  · by_cases h2 : n < 2048
    · have HE : enc n = [UInt8.ofNat (192 + n / 64), UInt8.ofNat (128 + n % 64)] := by unfold enc; rw [if_neg h1, if_pos h2]
      have e := strLit w (enc n) #[.int .u8 (192 + (n : Int) / 64), .int .u8 (128 + (n : Int) % 64)] 2 (by rw [HE]; rfl) (by
        rw [HE]; simp only [List.map_cons, List.map_nil, cbn _ (show 192 + n / 64 < 256 by omega), cbn _ (show 128 + n % 64 < 256 by omega)]; simp)
      clear HE
      go_enter Try.func50, Try.ntmps50
      go_wp2_with fail
      go_ret
      exact ⟨rfl, (Upd.refl _ _).alloc _⟩
    · by_cases h3 : n < 65536
      · have HE : enc n = [UInt8.ofNat (224 + n / 4096), UInt8.ofNat (128 + n / 64 % 64), UInt8.ofNat (128 + n % 64)] := by unfold enc; rw [if_neg h1, if_neg h2, if_pos h3]
        have e := strLit w (enc n) #[.int .u8 (224 + (n : Int) / 4096), .int .u8 (128 + (n : Int) / 64 % 64), .int .u8 (128 + (n : Int) % 64)] 3 (by rw [HE]; rfl) (by
          rw [HE]; simp only [List.map_cons, List.map_nil, cbn _ (show 224 + n / 4096 < 256 by omega), cbn _ (show 128 + n / 64 % 64 < 256 by omega), cbn _ (show 128 + n % 64 < 256 by omega)]; simp)
        have k2 : ((n : Int) < 2048) = False := eq_false (by omega)
        have k3 : ((n : Int) < 65536) = True := eq_true (by omega)
        have d1 : (n : Int) / 4096 ≤ 15 := by omega
        clear HE h2 h3
        go_enter Try.func50, Try.ntmps50
        go_wp2_with fail
        go_ret
        exact ⟨rfl, (Upd.refl _ _).alloc _⟩
      · have HE : enc n = [UInt8.ofNat (240 + n / 262144), UInt8.ofNat (128 + n / 4096 % 64), UInt8.ofNat (128 + n / 64 % 64), UInt8.ofNat (128 + n % 64)] := by unfold enc; rw [if_neg h1, if_neg h2, if_neg h3]
        have e := strLit w (enc n) #[.int .u8 (240 + (n : Int) / 262144), .int .u8 (128 + (n : Int) / 4096 % 64), .int .u8 (128 + (n : Int) / 64 % 64), .int .u8 (128 + (n : Int) % 64)] 4 (by rw [HE]; rfl) (by
          rw [HE]; simp only [List.map_cons, List.map_nil, cbn _ (show 240 + n / 262144 < 256 by omega), cbn _ (show 128 + n / 4096 % 64 < 256 by omega), cbn _ (show 128 + n / 64 % 64 < 256 by omega), cbn _ (show 128 + n % 64 < 256 by omega)]; simp)
        have k2 : ((n : Int) < 2048) = False := eq_false (by omega)
        have k3 : ((n : Int) < 65536) = False := eq_false (by omega)
        clear HE h2 h3
        go_enter Try.func50, Try.ntmps50
        go_wp2_with fail
        go_ret
        exact ⟨rfl, (Upd.refl _ _).alloc _⟩

/-- a slice of numbers that can be read -/
def RdN (k : IntKind) (w : World) (v : Value) (ns : List Nat) : Prop :=
  ∃ a cap, v = .slice a ns.length cap ∧ (ns ≠ [] → ∃ b o, a = some ⟨b, o, none⟩ ∧ ∀ i (h : i < ns.length), w.cell? ⟨b, o + i, none⟩ = some (.int k ns[i]))
theorem rdnOfRow {w : World} {a : Option Addr} {len cap : Nat} {zs : List Int} (h : IsRow .u32 w a len cap zs) :
    ∃ ns : List Nat, RdN .u32 w (.slice a len cap) ns ∧ ns.length ≤ 9223372036854775807 ∧ ∀ i (h : i < ns.length), ns[i] < 4294967296 := by
  rcases h with ⟨rfl, rfl, rfl, rfl⟩ | ⟨x, rfl, hl, hm, hz, hcell, hwz⟩
  · exact ⟨[], ⟨none, 0, rfl, fun h => absurd rfl h⟩, by simp, fun i h => absurd h (Nat.not_lt_zero _)⟩
  · have hlen : ((zs.take len).map Int.toNat).length = len := by simp; omega
    have hb : ∀ i (h : i < zs.length), 0 ≤ zs[i] ∧ zs[i] < 4294967296 := fun i h => wf_u32 (hwz zs[i] (List.getElem_mem _))
    refine ⟨(zs.take len).map Int.toNat, ⟨some x, cap, by rw [hlen], fun hne => ?_⟩, ?_, ?_⟩
    · have h0 : 0 < len := by
        rw [← hlen]
        exact List.length_pos_iff.mpr hne
      obtain ⟨b, o, s⟩ := x
      have hc := hcell 0 (by omega)
      have hs : s = none := by simpa [Addr.add] using World.cell?_spot hc
      subst hs
      refine ⟨b, o, rfl, fun i hi => ?_⟩
      rw [hlen] at hi
      have hi' : i < zs.length := by omega
      have := hcell i hi'
      have e : zs.getD i 0 = zs[i] := by simp [List.getD_eq_getElem?_getD, hi']
      rw [e, Addr.add_lit] at this
      rw [this]
      simp only [List.getElem_map, List.getElem_take]
      congr 2
      have := (hb i hi').1
      omega
    · rw [hlen]
      have : maxLen = 9223372036854775807 := by decide
      omega
    · intro i hi
      rw [hlen] at hi
      simp only [List.getElem_map, List.getElem_take]
      have := hb i (by omega)
      omega

theorem cut_list (s : ByteArray) (k : Nat) : (s.extract 0 k).data.toList = s.data.toList.take k := by
  simp [ByteArray.data_extract, Array.toList_extract, List.extract_eq_take_drop]

theorem utfSigns_walk (v : Value) (ns : List Nat) (w : World) (hr : RdN .u32 w v ns) (hl : ns.length ≤ 9223372036854775807) (hb : ∀ i (h : i < ns.length), ns[i] < 4294967296) :
    Calls Try.prog 13 #[v] w (True' w) := by
  obtain ⟨a, cap, rfl, hcell⟩ := hr
  have HC := hid hcell
  have HB := hid hb
  clear hcell hb
  by_cases h1 : 100 < ns.length
  · go_enter Try.func13, Try.ntmps13
    go_wp2_with fail
    go_ret
    exact ⟨rfl, Upd.refl _ _⟩
  · go_enter Try.func13, Try.ntmps13
    go_wp2_with fail
    go_loopg [2, 3, 4, 5, 6, 7, 8, 9] ns.length (fun k _ p q _ _ _ _ _ wr => ∃ (i : Nat) (A : ByteArray), k = ns.length - i ∧ p = .string A ∧ q = .int .i64 i ∧ i ≤ ns.length ∧ A.size ≤ 4 * i ∧ need A.data.toList = (0, true) ∧ New w wr)
    case atStart => exact ⟨0, ⟨#[]⟩, by simp, rfl, rfl, Nat.zero_le _, Nat.le_refl _, by rw [need], Upd.refl _ _⟩
    case round =>
      obtain ⟨i, A, rfl, rfl, rfl, hi, hA, hn, hw⟩ := hrel
      obtain ⟨wo, rfl⟩ : ∃ wo : World, wo = wr := ⟨_, rfl⟩
      have HNA := hid hn
      have HW := hid hw
      clear hn hw
      by_cases hlt : i < ns.length
      · obtain ⟨b, o, rfl, hc⟩ := HC.out (by intro h; subst h; simp at hlt)
        have hci := HW.out.cell (hc i hlt) (fun h => h)
        have hx := HB.out i hlt
        clear hc
        generalize ns[i] = x at *
        obtain ⟨n, hn, hn2⟩ : ∃ n : Nat, (x : Int) % 1300000 = n ∧ n < 1300000 := ⟨x % 1300000, by omega, by omega⟩
        have HI := hid (fun w => Is_any n w (by omega))
        have HS := hid (fun w => Sign_any n w hn2)
        obtain ⟨E, hE⟩ : ∃ E : ByteArray, (⟨(enc n).toArray⟩ : ByteArray) = E := ⟨_, rfl⟩
        have hEl : E.data.toList = enc n := by rw [← hE]
        have hEs : E.size = (enc n).length := by rw [← hE]; simp [ByteArray.size]
        have hEb := enc_len n
        rw [← hEs] at hEb
        obtain ⟨hEb1, hEb2⟩ := hEb
        have HEL := hid hEl
        have HES := hid hEs
        rw [hE] at HS
        clear hE hEl hEs
        obtain ⟨c, hcc⟩ : ∃ c, Utf.is n = c := ⟨_, rfl⟩
        rw [hcc] at HI
        have HCC := hid hcc
        clear hcc
        cases c with
        | false =>
          by_cases h11 : n ≤ 1114111
          · have HV : Hid (∀ w, Calls Try.prog 47 #[.string (A ++ E)] w fun e w' => e = .returned (.bool false) ∧ w = w') := fun w => by
              have h := Valid_any (A ++ E) w (by simp; omega)
              rw [Go.Joins.data_append, need_append _ _ _ (Nat.le_refl _) HNA.out, HEL.out, enc_none n HCC.out h11] at h
              exact h
            go_wp2_with fail
            refine (HI.out _).mono ?_
            rintro e w' ⟨rfl, rfl⟩
            go_wp2_with fail
            refine (HS.out _).mono ?_
            rintro e ws ⟨rfl, hns⟩
            have HN := hid (New.trans HW.out hns)
            clear hns
            go_wp2_with fail
            refine (HV.out _).mono ?_
            rintro e w' ⟨rfl, rfl⟩
            go_wp2_with fail
            go_roundg (ns.length - (i + 1))
            case measure => omega
            case rel => exact ⟨i + 1, A, rfl, rfl, by go_num, by omega, by omega, HNA.out, HN.out⟩
          · have k11 : ((n : Int) ≤ 1114111) = False := eq_false (by omega)
            clear h11
            go_wp2_with fail
            refine (HI.out _).mono ?_
            rintro e w' ⟨rfl, rfl⟩
            go_wp2_with fail
            go_roundg (ns.length - (i + 1))
            case measure => omega
            case rel => exact ⟨i + 1, A, rfl, rfl, by go_num, by omega, by omega, HNA.out, HW.out⟩
        | true =>
          have HWH := hid (enc_whole n HCC.out)
          go_wp2_with fail
          refine (HI.out _).mono ?_
          rintro e w' ⟨rfl, rfl⟩
          go_wp2_with fail
          refine (HS.out _).mono ?_
          rintro e ws ⟨rfl, hns⟩
          have HN := hid (New.trans HW.out hns)
          clear hns
          go_wp2_with fail
          go_loopg [2, 7, 8, 9] (E.size - 1) (fun k _ p _ _ wr => ∃ j : Nat, k = E.size - j ∧ p = .int .i64 j ∧ 1 ≤ j ∧ j ≤ E.size ∧ ws = wr)
          case atStart => exact ⟨1, rfl, rfl, Nat.le_refl _, hEb1, rfl⟩
          case round =>
            obtain ⟨j, rfl, rfl, j1, j2, rfl⟩ := hrel
            by_cases hj : j < E.size
            · have HNE : Hid (∀ w, Calls Try.prog 45 #[.string (A ++ E.extract 0 j)] w fun e w' => e = .returned (.tuple #[.int .i64 ((E.size - j : Nat) : Int), .bool true]) ∧ w = w') := fun w => by
                have h := Need_any (A ++ E.extract 0 j) w (by simp; omega)
                rw [Go.Joins.data_append, need_append _ _ _ (Nat.le_refl _) HNA.out, cut_list, HEL.out, Whole.cut HWH.out j1 (by rw [← HES.out]; exact hj), ← HES.out] at h
                exact h
              have hsj : (E.size : Int) - j = ((E.size - j : Nat) : Int) := by omega
              go_wp2_with fail
              refine (HNE.out _).mono ?_
              rintro e w' ⟨rfl, rfl⟩
              go_wp2_with fail
              go_roundg (E.size - (j + 1))
              case measure => omega
              case rel => exact ⟨j + 1, rfl, by go_num, by omega, by omega, rfl⟩
            · have HA2 : Hid (need (A ++ E).data.toList = (0, true)) := by
                show _ = _
                rw [Go.Joins.data_append, need_append _ _ _ (Nat.le_refl _) HNA.out, HEL.out, Whole.need HWH.out]
              go_wp2_with fail
              go_roundg (ns.length - (i + 1))
              case measure => omega
              case rel => exact ⟨i + 1, A ++ E, rfl, rfl, by go_num, by omega, by simp; omega, HA2.out, HN.out⟩
      · have HV : Hid (∀ w, Calls Try.prog 47 #[.string A] w fun e w' => e = .returned (.bool true) ∧ w = w') := fun w => by
          have h := Valid_any A w (by omega)
          rw [HNA.out] at h
          exact h
        go_wp2_with fail
        refine (HV.out _).mono ?_
        rintro e w' ⟨rfl, rfl⟩
        go_wp2_with fail
        refine (awake3_any _).mono ?_
        rintro e w' ⟨rfl, rfl⟩
        go_wp2_with fail
        go_ret
        exact ⟨rfl, HW.out⟩
theorem utfSigns_row (a : Option Addr) (len cap : Nat) (zs : List Int) (w : World) (h : IsRow .u32 w a len cap zs) : Calls Try.prog 13 #[.slice a len cap] w (True' w) := by
  obtain ⟨ns, h1, h2, h3⟩ := rdnOfRow h
  exact utfSigns_walk _ ns w h1 h2 h3
end Go.Proofs.Ytlmimlnflcfccaa
