/-
  Lists put: of types, of numbers; a text's bytes as types; is a number one of some.
-/
import Derived.Test.YtnngibflnnmioaaVal
namespace Go.Proofs.Ytnngibflnnmioaa
open Go.RowKit Go.Proofs.Leb Go.Proofs.Own
set_option maxRecDepth 100000
set_option maxHeartbeats 2000000

/-- what is read lies elsewhere than what is added to -/
def Apart (v l : Value) : Prop := ∀ k, v.ownBlock = some k → l.ownBlock ≠ some k
theorem Apart.adds {w w' : World} {v v' l : Value} (h : Apart v l) (ha : Adds w w' v v') (hl : ∀ k, l.ownBlock = some k → k < w.heap.size) : Apart v' l := by
  intro k hk hc
  rcases ha.at' with e | ⟨j, e, hj⟩
  · exact h k (by rw [← e]; exact hk) hc
  · rw [e] at hk; cases hk
    have := hl _ hc
    omega
theorem Rd.adds {w w' : World} {v v' l : Value} {ds : List UInt8} (h : Rd w l ds) (ha : Adds w w' v v') (hp : Apart v l) : Rd w' l ds := h.upd ha.upd (fun k hk h => hp k h hk)
theorem RdM.adds {k : IntKind} {w w' : World} {v v' l : Value} {ds : List Nat} (h : RdM k w l ds) (ha : Adds w w' v v') (hp : Apart v l) : RdM k w' l ds := h.upd ha.upd (fun k hk h => hp k h hk)

theorem putVals_any (v l : Value) (bs ds : List UInt8) (w : World) (hb : Bytes w v bs) (hl : Rd w l ds) (hp : Apart v l) (h1 : bs.length ≤ 100000) (h2 : ds.length ≤ 100000) :
    Calls Try.prog 43 #[v, l] w (Post w v (bs ++ (encU ds.length 0 ++ ds))) := by
  have HP := hid (putU_any v bs ds.length w (by omega) (by omega) hb)
  have h5 := encU_five (v := ds.length) (by omega)
  obtain ⟨a, c, rfl⟩ := hl.shape
  have HL := hid hl
  have HA := hid hp
  clear hl hp hb
  go_enter Try.func43, Try.ntmps43
  go_wp2_with fail
  refine HP.out.mono ?_
  rintro e w0 ⟨v0, rfl, hb0, ha0⟩
  go_wp2_with fail
  go_loopw [0, 14] (fun b c wr => ∃ i : Nat, c = .int .i64 i ∧ i ≤ ds.length ∧ Bytes wr b (bs ++ (encU ds.length 0 ++ ds.take i)) ∧ Adds w wr v b) (fun _ c _ => ds.length - (intOf c).toNat)
  case atStart => exact ⟨0, rfl, by omega, by simpa using hb0, ha0⟩
  case round =>
    obtain ⟨i, rfl, hi1, hbr, har⟩ := hrel
    clear hb0 ha0
    have hrd := HL.out.adds har HA.out
    by_cases hi : i < ds.length
    · obtain ⟨a', c', e, hcap, hn, hcell⟩ := hrd
      cases e
      obtain ⟨b, o, rfl, hce⟩ := hcell (by intro h; subst h; simp at hi)
      have hc1 := hce i hi
      have hg1 : ds[i]? = some ds[i] := List.getElem?_eq_getElem hi
      generalize hxe : ds[i] = x at *
      have HG := hid hg1
      clear hg1 hxe hce hcell
      unfold cb at hc1
      have hlen : (bs ++ (encU ds.length 0 ++ ds.take i)).length ≤ 1000000 := by simp; omega
      go_wp2_with (at_builtin; refine hold ?_)
      refine appB (.tmp 18) (.tmp 20) x hbr rfl (by omega) rfl rfl rfl rfl ?_
      intro v' w1 hb1 ha1
      have ha2 := har.trans ha1
      clear ha1 har hbr
      go_wp2_with fail
      go_roundw
      case rel =>
        refine ⟨i + 1, by go_num, by omega, ?_, ha2⟩
        rw [List.take_add_one, HG.out]
        simpa using hb1
      case measure => simp [intOf]; omega
    · have e : i = ds.length := by omega
      subst e
      rw [List.take_length] at hbr
      clear hrd
      obtain ⟨ab, cb', rfl⟩ := hbr.rd.shape
      have HB := hid hbr
      have HR := hid har
      clear hbr har
      go_wp2_with fail
      go_ret
      exact ⟨_, rfl, HB.out, HR.out⟩

theorem putNums_any (v l : Value) (bs : List UInt8) (ns : List Nat) (w : World) (hb : Bytes w v bs) (hl : RdM .u32 w l ns) (hp : Apart v l) (h1 : bs.length ≤ 100000) (h2 : ns.length ≤ 100000) (hn : ∀ n ∈ ns, n < 4294967296) :
    Calls Try.prog 40 #[v, l] w (Post w v (bs ++ ns.flatMap (encU · 0))) := by
  have HP := hid (fun v bs n w => putU_any v bs n w)
  obtain ⟨a, c, rfl⟩ := hl.shape
  have HL := hid hl
  have HA := hid hp
  have HN := hid hn
  obtain ⟨av, cv, hv⟩ := hb.rd.shape
  have HB := hid hb
  clear hl hp hb hn
  subst hv
  go_enter Try.func40, Try.ntmps40
  go_wp2_with fail
  go_loopw [0, 9] (fun b c wr => ∃ i : Nat, c = .int .i64 i ∧ i ≤ ns.length ∧ Bytes wr b (bs ++ (ns.take i).flatMap (encU · 0)) ∧ (bs ++ (ns.take i).flatMap (encU · 0)).length ≤ bs.length + 5 * i ∧ Adds w wr (.slice av bs.length cv) b) (fun _ c _ => ns.length - (intOf c).toNat)
  case atStart => exact ⟨0, rfl, by omega, by simpa using HB.out, by simp, Adds.refl _ _⟩
  case round =>
    obtain ⟨i, rfl, hi1, hbr, hlr, har⟩ := hrel
    have hrd := HL.out.adds har HA.out
    by_cases hi : i < ns.length
    · obtain ⟨a', c', e, hcap, hn, hcell⟩ := hrd
      cases e
      obtain ⟨b, o, rfl, hce⟩ := hcell (by intro h; subst h; simp at hi)
      have hc1 := hce i hi
      have hg1 : ns[i]? = some ns[i] := List.getElem?_eq_getElem hi
      have hx := HN.out _ (List.getElem_mem hi)
      generalize hxe : ns[i] = x at *
      have HG := hid hg1
      clear hg1 hxe hce hcell
      have h5 := encU_five hx
      generalize hpre : bs ++ (ns.take i).flatMap (encU · 0) = pre at *
      have HE := hid hpre
      have HC := hid (HP.out _ _ x _ (by omega) (by omega) hbr)
      have HR := hid har
      clear hpre hbr har
      go_wp2_with fail
      refine HC.out.mono ?_
      rintro e w1 ⟨v', rfl, hb1, ha1⟩
      have ha2 := HR.out.trans ha1
      clear ha1
      go_wp2_with fail
      go_roundw
      case rel =>
        have e2 : bs ++ (ns.take (i + 1)).flatMap (encU · 0) = pre ++ encU x 0 := by
          rw [List.take_add_one, HG.out, ← HE.out]
          simp
        refine ⟨i + 1, by go_num, by omega, ?_, ?_, ha2⟩
        · rw [e2]; exact hb1
        · rw [e2, List.length_append]; omega
      case measure => simp [intOf]; omega
    · have e : i = ns.length := by omega
      subst e
      rw [List.take_length] at hbr
      clear hrd hlr
      obtain ⟨ab, cb', rfl⟩ := hbr.rd.shape
      have HB := hid hbr
      have HR := hid har
      clear hbr har
      go_wp2_with fail
      go_ret
      exact ⟨_, rfl, HB.out, HR.out⟩

theorem in_ints (s : Int) (v : Value) (ns : List Nat) (w : World) (hl : RdM .i64 w v ns) (h : ns.length ≤ 1000) :
    Calls Try.prog 25 #[.int .i64 s, v] w (IsPost (ns.any fun n => decide ((n : Int) = s)) w) := by
  obtain ⟨a, c, rfl, hc, hn, hcell⟩ := hl
  go_enter Try.func25, Try.ntmps25
  go_wp2_with fail
  go_loop [5] (fun c => ∃ i : Nat, c = .int .i64 i ∧ i ≤ ns.length ∧ (ns.take i).any (fun n => decide ((n : Int) = s)) = false) (fun c => ns.length - (intOf c).toNat)
  case atStart => exact ⟨0, rfl, by omega, by simp⟩
  case round =>
    obtain ⟨i, rfl, hi1, hi2⟩ := hrel
    by_cases hi : i < ns.length
    · obtain ⟨b, o, rfl, hce⟩ := hcell (by intro h; subst h; simp at hi)
      have hc1 := hce i hi
      have hg1 : ns[i]? = some ns[i] := List.getElem?_eq_getElem hi
      generalize hxe : ns[i] = x at *
      have HG := hid hg1
      have HI := hid hi2
      clear hg1 hi2 hxe hce hcell
      by_cases hf : (x : Int) = s
      · have hb : ((x : Int) == s) = true := beq_iff_eq.mpr hf
        have HF := hid hf
        clear hf
        go_wp2_with fail
        go_ret
        refine ⟨?_, rfl⟩
        have : (ns.any fun n => decide ((n : Int) = s)) = true := List.any_eq_true.mpr ⟨x, List.mem_of_getElem? HG.out, decide_eq_true HF.out⟩
        rw [this]
        rfl
      · have hb : ((x : Int) == s) = false := beq_eq_false_iff_ne.mpr hf
        have HF := hid hf
        clear hf
        go_wp2_with fail
        go_round
        case rel =>
          refine ⟨i + 1, by go_num, by omega, ?_⟩
          rw [List.take_add_one, HG.out, List.any_append, HI.out]
          simp only [Option.toList_some, List.any_cons, List.any_nil, Bool.or_false, Bool.false_or]
          exact decide_eq_false HF.out
        case measure => simp [intOf]; omega
    · have e : i = ns.length := by omega
      subst e
      rw [List.take_length] at hi2
      have HI := hid hi2
      clear hi2 hcell
      go_wp2_with fail
      go_ret
      refine ⟨?_, rfl⟩
      rw [HI.out]
      rfl
end Go.Proofs.Ytnngibflnnmioaa
