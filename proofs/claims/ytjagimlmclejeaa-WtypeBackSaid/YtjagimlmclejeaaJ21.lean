/-
  Lists of types, and of lanes: what the program says of them.
-/
import Derived.Test.YtjagimlmclejeaaJ20
import Derived.Test.YtjagimlmclejeaaJ16
import Derived.Laws.IdiomStrings
import Derived.Laws.AppendOwn
namespace Go.Proofs.Ytjagimlmclejeaa
open Go.RowKit Go.Proofs.Leb Go.Proofs.Own
set_option maxRecDepth 100000
set_option maxHeartbeats 2000000

theorem any_yes {s : List UInt8} {p : UInt8 → Bool} {i : Nat} {x : UInt8} (hx : s[i]? = some x) (hp : p x = true) : s.any p = true := by
  rw [List.any_eq_true]
  exact ⟨x, List.mem_of_getElem? hx, hp⟩
theorem any_take {s : List UInt8} {p : UInt8 → Bool} {i : Nat} {x : UInt8} (h : (s.take i).any p = false) (hx : s[i]? = some x) (hp : p x = false) : (s.take (i + 1)).any p = false := by
  rw [List.take_add_one, hx]
  simp only [List.any_append, h, Option.toList_some, List.any_cons, hp, List.any_nil, Bool.or_self]
def notV (x : UInt8) : Bool := !valV x.toNat
def far (x : UInt8) : Bool := decide (32 ≤ (x.toNat : Int))
theorem nv_one (x : UInt8) (w : World) : Calls Try.prog 68 #[.int .u8 (x.toNat : Nat)] w (IsPost (notV x) w) := by
  have HV := hid (fun w => vright_any x.toNat w)
  unfold notV
  generalize valV x.toNat = b at *
  go_enter Try.func68, Try.ntmps68
  go_wp2_with fail
  refine (HV.out _).mono ?_
  rintro e w' ⟨rfl, rfl⟩
  go_wp2_with fail
  go_ret
  exact ⟨rfl, rfl⟩
theorem idxnv_any (v : Value) (bs : List UInt8) (w : World) (hr : Rd w v bs) (hl : bs.length ≤ 9223372036854775807) :
    Calls Try.prog 78 #[v, .func (.func 68) #[] #[]] w fun e w' => ∃ n : Int, e = .returned (.int .i64 n) ∧ decide (0 ≤ n) = bs.any notV ∧ w = w' := by
  obtain ⟨a, c, rfl, hc, hn, hcell⟩ := hr
  have HP := hid (fun (x : UInt8) w => nv_one x w)
  go_enter Try.func78, Try.ntmps78
  go_wp2_with fail
  go_loop [8] (fun c => ∃ i : Nat, c = .int .i64 i ∧ i ≤ bs.length ∧ (bs.take i).any notV = false) (fun c => bs.length - (intOf c).toNat)
  case atStart => exact ⟨0, rfl, by omega, by simp⟩
  case round =>
    obtain ⟨i, rfl, hi1, hi2⟩ := hrel
    by_cases hi : i < bs.length
    · obtain ⟨b, o, rfl, hce⟩ := hcell (by intro h; subst h; simp at hi)
      have hc1 := hce i hi
      have hg1 : bs[i]? = some bs[i] := List.getElem?_eq_getElem hi
      generalize hxe : bs[i] = x at *
      have HG := hid hg1
      have HI := hid hi2
      clear hg1 hi2 hxe hce hcell
      unfold cb at hc1
      cases hf : notV x with
      | true =>
        have HF := hid hf
        clear hf
        go_wp2_with fail
        refine (HP.out _ _).mono ?_
        rintro e w' ⟨rfl, rfl⟩
        rw [HF.out]
        go_wp2_with fail
        go_ret
        refine ⟨_, rfl, ?_, rfl⟩
        rw [any_yes HG.out HF.out]
        exact decide_eq_true (by omega)
      | false =>
        have HF := hid hf
        clear hf
        go_wp2_with fail
        refine (HP.out _ _).mono ?_
        rintro e w' ⟨rfl, rfl⟩
        rw [HF.out]
        go_wp2_with fail
        go_round
        case rel => exact ⟨i + 1, by go_num, by omega, any_take HI.out HG.out HF.out⟩
        case measure => simp [intOf]; omega
    · have e : i = bs.length := by omega
      subst e
      rw [List.take_length] at hi2
      have HI := hid hi2
      clear hi2 hcell
      go_wp2_with fail
      go_ret
      refine ⟨_, rfl, ?_, rfl⟩
      rw [HI.out]
      rfl

theorem connv_any (v : Value) (bs : List UInt8) (w : World) (hr : Rd w v bs) (hl : bs.length ≤ 9223372036854775807) :
    Calls Try.prog 67 #[v, .func (.func 68) #[] #[]] w (IsPost (bs.any notV) w) := by
  have HI := hid (idxnv_any v bs w hr hl)
  clear hr
  go_enter Try.func67, Try.ntmps67
  go_wp2_with fail
  refine HI.out.mono ?_
  rintro e w' ⟨n, rfl, hn, rfl⟩
  have HN := hid hn
  clear hn
  go_wp2_with fail
  go_ret
  exact ⟨by rw [← HN.out]; rfl, rfl⟩

theorem any_notV (s : List UInt8) : (!s.any notV) = valsV s := by
  unfold valsV notV
  rw [List.not_any_eq_all_not]
  simp
/-- wtype.right -/
theorem rightV_any (v : Value) (bs : List UInt8) (w : World) (hr : Rd w v bs) (hl : bs.length ≤ 9223372036854775807) :
    Calls Try.prog 41 #[v] w (IsPost (valsV bs) w) := by
  have HC := hid (connv_any v bs w hr hl)
  rw [← any_notV]
  obtain ⟨a, c, rfl⟩ := hr.shape
  clear hr
  go_enter Try.func41, Try.ntmps41
  go_wp2_with fail
  refine HC.out.mono ?_
  rintro e w' ⟨rfl, rfl⟩
  go_wp2_with fail
  go_ret
  exact ⟨rfl, rfl⟩
theorem funcRight_any (v v2 : Value) (bs ds : List UInt8) (w : World) (hr : Rd w v bs) (hl : bs.length ≤ 9223372036854775807) (hr2 : Rd w v2 ds) (hl2 : ds.length ≤ 9223372036854775807) :
    Calls Try.prog 11 #[.agg #[v, v2]] w (IsNew (valsV bs && valsV ds) w) := by
  have HC := hid (fun w' (h : New w w') => rightV_any v bs w' (hr.new h) hl)
  have HD := hid (fun w' (h : New w w') => rightV_any v2 ds w' (hr2.new h) hl2)
  obtain ⟨a, c, rfl⟩ := hr.shape
  obtain ⟨a2, c2, rfl⟩ := hr2.shape
  clear hr hr2
  have HN := hid (fun o => (Upd.refl (fun _ => False) w).alloc o)
  cases h : valsV bs with
  | true =>
    rw [h] at HC
    rw [Bool.true_and]
    go_enter Try.func11, Try.ntmps11
    go_wp2_with fail
    refine (HC.out _ (HN.out _)).mono ?_
    rintro e w' ⟨rfl, rfl⟩
    go_wp2_with fail
    refine (HD.out _ (HN.out _)).mono ?_
    rintro e w' ⟨rfl, rfl⟩
    go_wp2_with fail
    go_ret
    exact ⟨rfl, HN.out _⟩
  | false =>
    rw [h] at HC
    rw [Bool.false_and]
    go_enter Try.func11, Try.ntmps11
    go_wp2_with fail
    refine (HC.out _ (HN.out _)).mono ?_
    rintro e w' ⟨rfl, rfl⟩
    go_wp2_with fail
    go_ret
    exact ⟨rfl, HN.out _⟩

theorem str_bytes (w : World) (s : ByteArray) : ∃ v' w', (convert 9 50 (.string s)).run Try.prog w = .ok v' w' ∧ Rd w' v' (lb s) ∧ New w w' := by
  refine ⟨_, _, run_bytes_of_string w 9 50 5 s Try.underlying9 Try.underlying50 Try.underlying5, ?_, (Upd.refl _ _).drew.alloc _⟩
  rw [← lb_len]
  refine ⟨_, _, rfl, ?_, (fun h => by cases h), fun _ => ⟨w.heap.size, 0, rfl, fun i hi => ?_⟩⟩
  · exact grownCap_ge _ _ _ _
  · have h2 := heap_alloc_new w.drew (.cells (bytesRow s (grownCap w (lb s).length 0 5)) 5 ((bytesRow s (grownCap w (lb s).length 0 5)).size, (bytesRow s (grownCap w (lb s).length 0 5)).size + 1))
    have h3 : w.drew.heap.size = w.heap.size := rfl
    rw [h3] at h2
    rw [cell_of_row _ w.heap.size (0 + i) _ _ _ h2, Nat.zero_add]
    have hi' : i < s.data.size := by rw [lb_len] at hi; exact hi
    unfold bytesRow
    rw [Array.getElem?_append_left (by simpa using hi')]
    simp only [Array.getElem?_map, cb, lb]
    rw [Array.getElem?_eq_getElem hi']
    rfl
end Go.Proofs.Ytjagimlmclejeaa

namespace Go.Proofs.Ytjagimlmclejeaa
open Go.RowKit Go.Proofs.Leb Go.Proofs.Own
set_option maxRecDepth 100000
set_option maxHeartbeats 2000000

/-- what is read lies elsewhere than what is added to -/
def Apart (v l : Value) : Prop := ∀ k, v.ownBlock = some k → l.ownBlock ≠ some k
theorem Apart.adds {w w' : World} {v v' l : Value} (h : Apart v l) (ha : Adds w w' v v') (hl : ∀ k, l.ownBlock = some k → k < w.heap.size) : Apart v' l := by
  intro k hk hc
  rcases ha.at' with e | ⟨j, e, hj⟩
  · exact h k (by rw [← e]; exact hk) hc
  · rw [e] at hk; cases hk
    have := hl _ hc
    omega
theorem Rd.adds {w w' : World} {v v' l : Value} {ds : List UInt8} (h : Rd w l ds) (ha : Adds w w' v v') (hp : Apart v l) : Rd w' l ds := h.upd ha.upd (fun k hk h => hp k h hk)
theorem RdM.adds {k : IntKind} {w w' : World} {v v' l : Value} {ds : List Nat} (h : RdM k w l ds) (ha : Adds w w' v v') (hp : Apart v l) : RdM k w' l ds := h.upd ha.upd (fun k hk h => hp k h hk)

theorem putVals_any (v l : Value) (bs ds : List UInt8) (w : World) (hb : Bytes w v bs) (hl : Rd w l ds) (hp : Apart v l) (h1 : bs.length ≤ 100000) (h2 : ds.length ≤ 100000) :
    Calls Try.prog 21 #[v, l] w (Post w v (bs ++ (encU ds.length 0 ++ ds))) := by
  have HP := hid (putU_any v bs ds.length w (by omega) (by omega) hb)
  have h5 := encU_five (v := ds.length) (by omega)
  obtain ⟨a, c, rfl⟩ := hl.shape
  have HL := hid hl
  have HA := hid hp
  clear hl hp hb
  go_enter Try.func21, Try.ntmps21
  go_wp2_with fail
  refine HP.out.mono ?_
  rintro e w0 ⟨v0, rfl, hb0, ha0⟩
  go_wp2_with fail
  go_loopw [0, 14] (fun b c wr => ∃ i : Nat, c = .int .i64 i ∧ i ≤ ds.length ∧ Bytes wr b (bs ++ (encU ds.length 0 ++ ds.take i)) ∧ Adds w wr v b) (fun _ c _ => ds.length - (intOf c).toNat)
  case atStart => exact ⟨0, rfl, by omega, by simpa using hb0, ha0⟩
  case round =>
    obtain ⟨i, rfl, hi1, hbr, har⟩ := hrel
    clear hb0 ha0
    have hrd := HL.out.adds har HA.out
    by_cases hi : i < ds.length
    · obtain ⟨a', c', e, hcap, hn, hcell⟩ := hrd
      cases e
      obtain ⟨b, o, rfl, hce⟩ := hcell (by intro h; subst h; simp at hi)
      have hc1 := hce i hi
      have hg1 : ds[i]? = some ds[i] := List.getElem?_eq_getElem hi
      generalize hxe : ds[i] = x at *
      have HG := hid hg1
      clear hg1 hxe hce hcell
      unfold cb at hc1
      have hlen : (bs ++ (encU ds.length 0 ++ ds.take i)).length ≤ 1000000 := by simp; omega
      go_wp2_with (at_builtin; refine hold ?_)
      refine appB (.tmp 18) (.tmp 20) x hbr rfl (by omega) rfl rfl rfl rfl ?_
      intro v' w1 hb1 ha1
      have ha2 := har.trans ha1
      clear ha1 har hbr
      go_wp2_with fail
      go_roundw
      case rel =>
        refine ⟨i + 1, by go_num, by omega, ?_, ha2⟩
        rw [List.take_add_one, HG.out]
        simpa using hb1
      case measure => simp [intOf]; omega
    · have e : i = ds.length := by omega
      subst e
      rw [List.take_length] at hbr
      clear hrd
      obtain ⟨ab, cb', rfl⟩ := hbr.rd.shape
      have HB := hid hbr
      have HR := hid har
      clear hbr har
      go_wp2_with fail
      go_ret
      exact ⟨_, rfl, HB.out, HR.out⟩

end Go.Proofs.Ytjagimlmclejeaa
