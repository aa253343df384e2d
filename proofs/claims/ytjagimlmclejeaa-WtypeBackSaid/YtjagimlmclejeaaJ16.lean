/-
  The walks of the document's numbers of 32 bits and with a sign, as texts; of lists of types.
-/
import Derived.Test.YtjagimlmclejeaaJ12
import Derived.Test.YtjagimlmclejeaaJ14
import Derived.Test.YtjagimlmclejeaaJ15
namespace Go.Proofs.Ytjagimlmclejeaa
open Go.RowKit Go.Proofs.Leb Go.Proofs.Own
set_option maxRecDepth 100000
set_option maxHeartbeats 2000000

/-- bytes as a text -/
def St (bs : List UInt8) : Value := .string ⟨bs.toArray⟩
theorem st_cat (a b : List UInt8) : (⟨a.toArray⟩ : ByteArray) ++ ⟨b.toArray⟩ = ⟨(a ++ b).toArray⟩ := by
  apply ByteArray.ext
  simp
/-- a number of 32 bits in so many bytes more, five at most -/
def numV (v more : Nat) : List UInt8 := if (encU v more).length ≤ 5 then encU v more else encU v (5 - (encU v 0).length)
theorem encU_five {v : Nat} (hv : v < 4294967296) : (encU v 0).length ≤ 5 := encU_len_le 5 v (by decide) (Nat.lt_trans hv (by decide))
theorem numV_zero {v : Nat} (hv : v < 4294967296) : numV v 0 = encU v 0 := if_pos (encU_five hv)
theorem numV_len {v : Nat} (hv : v < 4294967296) (more : Nat) : 1 ≤ (numV v more).length ∧ (numV v more).length ≤ 5 := by
  have h5 := encU_five hv
  have h1 := encU_len v more
  have h2 := encU_len v (5 - (encU v 0).length)
  have h0 : 1 ≤ (encU v 0).length := encU_ne v 0
  unfold numV
  split <;> omega
def Says (bs : List UInt8) (w : World) (e : Ending) (w' : World) : Prop := e = .returned (.string ⟨bs.toArray⟩) ∧ New w w'

theorem num_any (v more : Nat) (w : World) (hv : v < 4294967296) (hm : more ≤ 1000) :
    Calls Try.prog 44 #[.int .u32 v, .int .i64 more] w (Says (numV v more) w) := by
  have H1 := hid (fun w => refPutU_any (.slice none 0 0) [] v more w (by omega) hm (by decide) (Rd.nil w))
  by_cases h5 : (encU v more).length ≤ 5
  · rw [show numV v more = encU v more from if_pos h5]
    generalize encU v more = bs at *
    have h5' : decide (5 < (bs.length : Int)) = false := decide_eq_false (by omega)
    go_enter Try.func44, Try.ntmps44
    go_wp2_with fail
    refine (H1.out _).mono ?_
    rintro e wa ⟨b, rfl, hb, hn, hf⟩
    rw [List.nil_append] at hb
    have hs := hb.rd.str
    obtain ⟨a, cap, rfl⟩ := hb.rd.shape
    clear hb hf
    go_wp2_with fail
    go_ret
    exact ⟨rfl, hn⟩
  · rw [show numV v more = encU v (5 - (encU v 0).length) from if_neg h5]
    have HL := encU_five hv
    have H2 := hid (fun w => refPutU_any (.slice none 0 0) [] v 0 w (by omega) (by omega) (by decide) (Rd.nil w))
    have H3 := hid (fun w => refPutU_any (.slice none 0 0) [] v (5 - (encU v 0).length) w (by omega) (by omega) (by decide) (Rd.nil w))
    generalize encU v (5 - (encU v 0).length) = b3 at *
    generalize encU v 0 = b2 at *
    generalize encU v more = b1 at *
    have h5' : decide (5 < (b1.length : Int)) = true := decide_eq_true (by omega)
    have e5 : ((5 : Int) - (b2.length : Int)) = ((5 - b2.length : Nat) : Int) := by omega
    go_enter Try.func44, Try.ntmps44
    go_wp2_with fail
    refine (H1.out _).mono ?_
    rintro e wa ⟨b, rfl, hb, hn, hf⟩
    rw [List.nil_append] at hb
    obtain ⟨a, cap, rfl⟩ := hb.rd.shape
    clear hb hf
    go_wp2_with fail
    refine (H2.out _).mono ?_
    rintro e wb ⟨b, rfl, hb, hn2, hf⟩
    rw [List.nil_append] at hb
    obtain ⟨a2, cap2, rfl⟩ := hb.rd.shape
    clear hb hf
    have hn := New.trans hn hn2
    go_wp2_with fail
    try simp only [e5]
    refine (H3.out _).mono ?_
    rintro e wc ⟨b, rfl, hb, hn3, hf⟩
    rw [List.nil_append] at hb
    have hs := hb.rd.str
    obtain ⟨a3, cap3, rfl⟩ := hb.rd.shape
    have hn := New.trans hn hn3
    clear hb hf
    go_wp2_with fail
    go_ret
    exact ⟨rfl, hn⟩

/-- a text's bytes -/
def lb (s : ByteArray) : List UInt8 := s.data.toList
theorem lb_len (s : ByteArray) : (lb s).length = s.size := by unfold lb; simp
theorem lb_of (s : ByteArray) : s = ⟨(lb s).toArray⟩ := rfl
theorem lb_get (s : ByteArray) (i : Nat) (h : i < s.size) : (lb s)[i]? = some s[i] := by
  unfold lb
  rw [Array.getElem?_toList, Array.getElem?_eq_getElem (by exact h)]
  rfl
theorem putVals_ref (s : ByteArray) (more : Nat) (w : World) (hs : s.size < 4294967296) (hm : more ≤ 1000) :
    Calls Try.prog 22 #[.string s, .int .i64 more] w (Says (numV s.size more ++ lb s) w) := by
  have HN := hid (fun w => num_any s.size more w hs hm)
  have hl := numV_len hs more
  have hc : ¬ 9223372036854775807 < (numV s.size more).length + s.size := by omega
  go_enter Try.func22, Try.ntmps22
  go_wp2_with fail
  refine (HN.out _).mono ?_
  rintro e wa ⟨rfl, hn⟩
  go_wp2_with fail
  go_ret
  exact ⟨by rw [← st_cat]; rfl, hn⟩

def valsV (s : List UInt8) : Bool := s.all fun x => valV x.toNat
theorem all_take {s : List UInt8} {p : UInt8 → Bool} {i : Nat} {x : UInt8} (h : (s.take i).all p = true) (hx : s[i]? = some x) (hp : p x = true) : (s.take (i + 1)).all p = true := by
  rw [List.take_add_one, hx]
  simp only [List.all_append, h, Option.toList_some, List.all_cons, hp, List.all_nil, Bool.and_self]
theorem all_not {s : List UInt8} {p : UInt8 → Bool} {i : Nat} {x : UInt8} (hx : s[i]? = some x) (hp : p x = false) : s.all p = false := by
  rw [List.all_eq_false]
  exact ⟨x, List.mem_of_getElem? hx, by simp [hp]⟩
theorem vals_ref (s : ByteArray) (w : World) (hs : s.size ≤ 9223372036854775807) :
    Calls Try.prog 9 #[.string s] w (IsPost (valsV (lb s)) w) := by
  have HV := hid (fun (v : Int) w => rval_any v w)
  go_enter Try.func9, Try.ntmps9
  go_wp2_with fail
  go_loop [3] (fun c => ∃ i : Nat, c = .int .i64 i ∧ i ≤ s.size ∧ ((lb s).take i).all (fun x => valV x.toNat) = true) (fun c => s.size - (intOf c).toNat)
  case atStart => exact ⟨0, rfl, by omega, by simp⟩
  case round =>
    obtain ⟨i, rfl, h1, h2⟩ := hrel
    by_cases hi : i < s.size
    · have hg := lb_get s i hi
      obtain ⟨x, hx⟩ : ∃ x, s[i] = x := ⟨_, rfl⟩
      rw [hx] at hg
      have hx2 : s[i].toNat = x.toNat := by rw [hx]
      have H2 := hid h2
      have HG := hid hg
      clear h2 hg hx
      cases hv : valV (x.toNat : Int) with
      | true =>
        have HX := hid hv
        go_wp2_with fail
        refine (HV.out _ _).mono ?_
        rintro e w' ⟨rfl, rfl⟩
        rw [HX.out]
        go_wp2_with fail
        go_round
        case rel => exact ⟨i + 1, by go_num, by omega, all_take H2.out HG.out HX.out⟩
        case measure => simp [intOf]; omega
      | false =>
        have HX := hid hv
        go_wp2_with fail
        refine (HV.out _ _).mono ?_
        rintro e w' ⟨rfl, rfl⟩
        rw [HX.out]
        go_wp2_with fail
        go_ret
        exact ⟨by rw [show valsV (lb s) = false from all_not HG.out HX.out]; rfl, rfl⟩
    · have e : i = s.size := by omega
      subst e
      rw [← lb_len, List.take_length] at h2
      have H2 := hid h2
      clear h2
      go_wp2_with fail
      go_ret
      exact ⟨by rw [show valsV (lb s) = true from H2.out]; rfl, rfl⟩

end Go.Proofs.Ytjagimlmclejeaa
