/-
  CursorPlaces: the walk.
-/
import Derived.Test.YtkfohickmdkplaaJ52
import Derived.Test.YtkfohickmdkplaaJ48
namespace Go.Proofs.Ytkfohickmdkplaa
open Go.RowKit Go.Proofs.Leb Go.Proofs.Own Go.Proofs.Cur Go.Proofs.Span
set_option maxRecDepth 100000
set_option maxHeartbeats 40000000
theorem ag_cut {q : Nat} {bs more : List UInt8} (hq : q ≤ bs.length) : Ag q bs (bs.take q ++ more) := by
  refine ⟨by simp; omega, ?_⟩
  rw [List.take_append_of_le_length (by simp; omega), List.take_take, Nat.min_self]
theorem ag_self {q : Nat} {bs : List UInt8} (hq : q ≤ bs.length) : Ag q bs (bs.take q) := ⟨by simp; omega, by rw [List.take_take, Nat.min_self]⟩
theorem placesL_any (H : AskedAny) (bv lv mv : Value) (bs ms : List UInt8) (l : List AskM) (w : World) (hb : Rd w bv bs) (hbl : bs.length ≤ 9223372036854775807) (hm : Rd w mv ms) (hml : ms.length ≤ 9223372036854775807) (hl : RdE 14 EAsk w (fun _ => True) lv l) (hll : l.length ≤ 140737488355328) (hwf : ∀ a ∈ l, WfA a) :
    Calls Try.prog 4 #[bv, lv, mv] w (fun e w' => e = .returned (.bool true) ∧ New w w') := by
  have HB := hid hb
  have HM := hid hm
  have HL := hid hl
  have HWF := hid hwf
  obtain ⟨ab, cb', rfl⟩ := hb.shape
  obtain ⟨am, cm, rfl⟩ := hm.shape
  obtain ⟨al, cl, rfl⟩ := hl.shape
  have hbc : bs.length ≤ cb' := by obtain ⟨_, _, e, h, -⟩ := hb; cases e; exact h
  have hmf : ∀ (fn : Fn) (first cap : Array Value) (w : World), (Instr.makeFunc fn first cap).run Try.prog w = .ok (.func fn first cap) w := fun _ _ _ _ => rfl
  obtain ⟨w1, hw1⟩ : ∃ w1, w.alloc (.cells #[.slice al l.length cl] 23) = w1 := ⟨_, rfl⟩
  have hn1 : New w w1 := by rw [← hw1]; exact (Upd.refl _ _).alloc _
  have K1 : Hid (One1 w1 w.heap.size (.slice al l.length cl)) := by show One1 _ _ _; rw [← hw1]; exact One1.mk rfl
  have HN1 := hid hn1
  have HF := hid (Fine_any _ l _ w1 (hl.upd EAsk.ok hn1 (fun _ _ h => h)) hwf hll)
  have z1 := K1.out.c
  have HH := hid H
  clear H hb hm hl hwf hll hn1
  by_cases h600 : bs.length ≤ 600
  · have hd6 : decide ((600 : Int) < (bs.length : Int)) = false := decide_eq_false (by omega)
    by_cases h60 : ms.length ≤ 60
    · have hd60 : decide ((60 : Int) < (ms.length : Int)) = false := decide_eq_false (by omega)
      go_enter Try.func4, Try.ntmps4
      go_wp2_with fail
      refine HF.out.mono ?_
      rintro e w2 ⟨c, rfl, hn2, hc⟩
      cases c with
      | false =>
        have HN2 := hid hn2
        clear hn2 hc
        go_wp2_with fail
        go_ret
        exact ⟨rfl, New.trans HN1.out HN2.out⟩
      | true =>
        obtain ⟨hl30, hfine⟩ := hc rfl
        have HT : Hid (∀ W v ds, New w2 W → Rd W v ds → ds.length ≤ 1000 → Calls Try.prog 12 #[v, .pointer (some ⟨w.heap.size, 0, none⟩)] W
            (fun e w' => e = .returned (.tuple #[.int .i64 (placeO (allO ds l (-1) 0).2), .int .i64 (errO (allO ds l (-1) 0).2)]) ∧ New W w')) := fun W v ds hW hd hdl =>
          places1_any HH.out _ _ v ds l (fun k => k < w.heap.size) W hd ((K1.out.new hn2).new hW) ((RdA.of HL.out).new (New.trans (New.trans HN1.out hn2) hW)) (fun k hk => Nat.lt_of_lt_of_le hk (New.trans (New.trans HN1.out hn2) hW).size) HWF.out hfine hl30 (by omega)
        have HN2 := hid hn2
        have HNW2 := hid (New.trans HN1.out hn2)
        have HT0 := hid (HT.out w2 _ bs (Upd.refl _ _) (HB.out.new HNW2.out) (by omega))
        have HAW := hid (fun W => awake_any W)
        have hne := allO_loc (bs := bs) l (-1) 0 ⟨Nat.zero_le _, by omega, .inl rfl⟩
        have HNE := hid hne
        have HRB := hid (HB.out.new HNW2.out)
        have HRM := hid (HM.out.new HNW2.out)
        obtain ⟨o, ho⟩ : ∃ o, (allO bs l (-1) 0).2 = o := ⟨_, rfl⟩
        rw [ho] at HT0
        have HO := hid ho
        clear hn2 hc hfine hw1 hne ho
        go_wp2_with fail
        refine HT0.out.mono ?_
        rintro e w3 ⟨rfl, hn3⟩
        have HN3 := hid hn3
        have HNW3 := hid (New.trans HNW2.out hn3)
        clear hn3
        cases o with
        | ok z q =>
          obtain ⟨-, hq, hag⟩ := HNE.out.ok HO.out
          have HAG := hid (hag _ (ag_cut (more := ms) hq))
          have hq1 : ¬ (bs.length : Int) < (q : Int) := by omega
          have hq2 : (q : Int) ≤ (cb' : Int) := by omega
          have hq3 : q ≤ cb' := by omega
          clear hag
          unfold placeO errO
          simp only
          go_wp2_with (at_builtin; refine hold ?_)
          refine appR (.tmp 48) (.tmp 51) (ds := []) (bs := bs.take q) (Bytes.made _) (((HB.out.new HNW3.out).new ((Upd.refl _ _).alloc _)).front q hq) (by simp; omega) rfl rfl rfl rfl ?_
          intro v4 w4 hb4 ha4
          have hn4 : New w3 w4 := (Adds.made' rfl (Upd.refl _ _) ha4).1
          have hf4 := (Adds.made' rfl (Upd.refl _ _) ha4).2
          have HN4 := hid hn4
          have HB4 := hid hb4
          clear ha4 hb4
          go_wp2_with (at_builtin; refine hold ?_)
          refine appR (.tmp 52) (.tmp 53) (ds := [] ++ bs.take q) (bs := ms) HB4.out ((HM.out.new HNW3.out).new HN4.out) (by simp; omega) rfl rfl rfl rfl ?_
          intro v5 w5 hb5 ha5
          have hn5 : New w3 w5 := Upd.newAdds hn4 hf4 ha5
          have HN5 := hid (New.trans HN3.out hn5)
          have HT1 := hid (HT.out w5 v5 _ HN5.out hb5.rd (by simp; omega))
          rw [List.nil_append, HAG.out] at HT1
          clear hn4 hf4 ha5 hb5 hn5
          go_wp2_with fail
          refine HT1.out.mono ?_
          rintro e w6 ⟨rfl, hn6⟩
          have HN6 := hid (New.trans (New.trans HNW2.out HN5.out) hn6)
          clear hn6
          unfold placeO errO
          simp only
          go_wp2_with fail
          refine (HAW.out _).mono ?_
          rintro e w7 ⟨rfl, hn7⟩
          have HN7 := hid (New.trans HN6.out hn7)
          clear hn7
          go_wp2_with fail
          go_ret
          exact ⟨rfl, HN7.out⟩
        | up q er =>
          obtain ⟨-, hq, her⟩ := HNE.out.up HO.out
          have hq1 : ¬ (bs.length : Int) < (q : Int) := by omega
          rcases her with ⟨rfl, rfl⟩ | ⟨rfl, h1, h2⟩
          · unfold placeO errO
            simp only
            go_wp2_with fail
            refine (HAW.out _).mono ?_
            rintro e w7 ⟨rfl, hn7⟩
            have HN7 := hid (New.trans HNW3.out hn7)
            clear hn7
            go_wp2_with fail
            go_ret
            exact ⟨rfl, HN7.out⟩
          · by_cases hlt : q < bs.length
            · have H2 := hid (h2 (bs.take q) (by rw [List.length_take]; omega) (ag_self hq))
              have hw9 : IntKind.i64.wrap ((q : Int) + 1) = (q : Int) + 1 := by rw [IntWalk.i64_in _ (by omega)]
              have hq2 : (q : Int) ≤ (cb' : Int) := by omega
              have hq3 : q ≤ cb' := by omega
              have HA3 := hid (h1 hlt _ (ag_cut (more := ms) (q := q + 1) (by omega)))
              have hm1 : min (bs.length : Int) ((q : Int) + 1) = (q : Int) + 1 := by omega
              have hm2 : (q : Int) + 1 ≤ (cb' : Int) := by omega
              have hm3 : (0 : Int) ≤ (q : Int) + 1 := by omega
              clear h1 h2
              unfold placeO errO
              simp only
              go_wp2_with (at_builtin; refine hold ?_)
              refine appR (.tmp 79) (.tmp 86) (ds := []) (bs := bs.take (q + 1)) (Bytes.made _) (((HB.out.new HNW3.out).new ((Upd.refl _ _).alloc _)).front (q + 1) (by omega)) (by simp; omega) rfl rfl rfl rfl ?_
              intro v4 w4 hb4 ha4
              have hn4 : New w3 w4 := (Adds.made' rfl (Upd.refl _ _) ha4).1
              have hf4 := (Adds.made' rfl (Upd.refl _ _) ha4).2
              have HN4 := hid hn4
              have HB4 := hid hb4
              clear ha4 hb4
              go_wp2_with (at_builtin; refine hold ?_)
              refine appR (.tmp 87) (.tmp 88) (ds := [] ++ bs.take (q + 1)) (bs := ms) HB4.out ((HM.out.new HNW3.out).new HN4.out) (by simp; omega) rfl rfl rfl rfl ?_
              intro v5 w5 hb5 ha5
              have hn5 : New w3 w5 := Upd.newAdds hn4 hf4 ha5
              have HN5 := hid (New.trans HN3.out hn5)
              have HT1 := hid (HT.out w5 v5 _ HN5.out hb5.rd (by simp; omega))
              rw [List.nil_append, HA3.out] at HT1
              clear hn4 hf4 ha5 hb5 hn5
              go_wp2_with fail
              refine HT1.out.mono ?_
              rintro e w6 ⟨rfl, hn6⟩
              have HN6 := hid (New.trans HN5.out hn6)
              have HNW6 := hid (New.trans (New.trans HNW2.out HN5.out) hn6)
              have HT2 := hid (HT.out w6 _ (bs.take q) HN6.out ((HB.out.new HNW6.out).front q hq) (by simp; omega))
              clear hn6
              rcases H2.out with h2 | h2
              · rw [h2] at HT2
                clear h2
                try unfold placeO errO
                try simp only
                go_wp2_with fail
                refine HT2.out.mono ?_
                rintro e w7 ⟨rfl, hn7⟩
                have HN7 := hid (New.trans HNW6.out hn7)
                clear hn7
                unfold placeO errO
                simp only
                go_wp2_with fail
                all_goals
                  refine (HAW.out _).mono ?_
                  rintro e w8 ⟨rfl, hn8⟩
                  have HN8 := hid (New.trans HN7.out hn8)
                  clear hn8
                  go_wp2_with fail
                  go_ret
                  exact ⟨rfl, HN8.out⟩
              · rw [h2] at HT2
                clear h2
                try unfold placeO errO
                try simp only
                go_wp2_with fail
                refine HT2.out.mono ?_
                rintro e w7 ⟨rfl, hn7⟩
                have HN7 := hid (New.trans HNW6.out hn7)
                clear hn7
                unfold placeO errO
                simp only
                go_wp2_with fail
                all_goals
                  refine (HAW.out _).mono ?_
                  rintro e w8 ⟨rfl, hn8⟩
                  have HN8 := hid (New.trans HN7.out hn8)
                  clear hn8
                  go_wp2_with fail
                  go_ret
                  exact ⟨rfl, HN8.out⟩
            · have H2 := hid (h2 (bs.take q) (by rw [List.length_take]; omega) (ag_self hq))
              obtain rfl : q = bs.length := by omega
              have hw9 : IntKind.i64.wrap ((bs.length : Int) + 1) = (bs.length : Int) + 1 := by rw [IntWalk.i64_in _ (by omega)]
              have hq2 : (bs.length : Int) ≤ (cb' : Int) := by omega
              have hm1 : min (bs.length : Int) ((bs.length : Int) + 1) = (bs.length : Int) := by omega
              clear h1 h2
              unfold placeO errO
              simp only
              go_wp2_with (at_builtin; refine hold ?_)
              refine appR (.tmp 79) (.tmp 86) (ds := []) (bs := bs.take bs.length) (Bytes.made _) (((HB.out.new HNW3.out).new ((Upd.refl _ _).alloc _)).front bs.length hq) (by simp; omega) rfl rfl rfl rfl ?_
              intro v4 w4 hb4 ha4
              have hn4 : New w3 w4 := (Adds.made' rfl (Upd.refl _ _) ha4).1
              have hf4 := (Adds.made' rfl (Upd.refl _ _) ha4).2
              have HN4 := hid hn4
              have HB4 := hid hb4
              clear ha4 hb4
              go_wp2_with (at_builtin; refine hold ?_)
              refine appR (.tmp 87) (.tmp 88) (ds := [] ++ bs.take bs.length) (bs := ms) HB4.out ((HM.out.new HNW3.out).new HN4.out) (by simp; omega) rfl rfl rfl rfl ?_
              intro v5 w5 hb5 ha5
              have hn5 : New w3 w5 := Upd.newAdds hn4 hf4 ha5
              have HN5 := hid (New.trans HN3.out hn5)
              have HT1 := hid (HT.out w5 v5 _ HN5.out hb5.rd (by simp; omega))
              rw [List.nil_append] at HT1
              obtain ⟨o3, ho3⟩ : ∃ o3, (allO (bs.take bs.length ++ ms) l (-1) 0).2 = o3 := ⟨_, rfl⟩
              rw [ho3] at HT1
              clear ho3
              obtain ⟨p3, hp3⟩ : ∃ p3, placeO o3 = p3 := ⟨_, rfl⟩
              obtain ⟨e3, he3⟩ : ∃ e3, errO o3 = e3 := ⟨_, rfl⟩
              rw [hp3, he3] at HT1
              clear hp3 he3
              clear hn4 hf4 ha5 hb5 hn5
              go_wp2_with fail
              refine HT1.out.mono ?_
              rintro e w6 ⟨rfl, hn6⟩
              have HN6 := hid (New.trans HN5.out hn6)
              have HNW6 := hid (New.trans (New.trans HNW2.out HN5.out) hn6)
              have HT2 := hid (HT.out w6 _ (bs.take bs.length) HN6.out ((HB.out.new HNW6.out).front bs.length hq) (by simp; omega))
              clear hn6
              rcases H2.out with h2 | h2
              · rw [h2] at HT2
                clear h2
                try unfold placeO errO
                try simp only
                go_wp2_with fail
                refine HT2.out.mono ?_
                rintro e w7 ⟨rfl, hn7⟩
                have HN7 := hid (New.trans HNW6.out hn7)
                clear hn7
                unfold placeO errO
                simp only
                go_wp2_with fail
                all_goals
                  refine (HAW.out _).mono ?_
                  rintro e w8 ⟨rfl, hn8⟩
                  have HN8 := hid (New.trans HN7.out hn8)
                  clear hn8
                  go_wp2_with fail
                  go_ret
                  exact ⟨rfl, HN8.out⟩
              · rw [h2] at HT2
                clear h2
                try unfold placeO errO
                try simp only
                go_wp2_with fail
                refine HT2.out.mono ?_
                rintro e w7 ⟨rfl, hn7⟩
                have HN7 := hid (New.trans HNW6.out hn7)
                clear hn7
                unfold placeO errO
                simp only
                go_wp2_with fail
                all_goals
                  refine (HAW.out _).mono ?_
                  rintro e w8 ⟨rfl, hn8⟩
                  have HN8 := hid (New.trans HN7.out hn8)
                  clear hn8
                  go_wp2_with fail
                  go_ret
                  exact ⟨rfl, HN8.out⟩
    · have hd60 : decide ((60 : Int) < (ms.length : Int)) = true := decide_eq_true (by omega)
      go_enter Try.func4, Try.ntmps4
      go_wp2_with fail
      go_ret
      exact ⟨rfl, HN1.out⟩
  · have hd6 : decide ((600 : Int) < (bs.length : Int)) = true := decide_eq_true (by omega)
    go_enter Try.func4, Try.ntmps4
    go_wp2_with fail
    go_ret
    exact ⟨rfl, HN1.out⟩
end Go.Proofs.Ytkfohickmdkplaa
