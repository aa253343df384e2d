/-
  CursorReads: the walk.
-/
import Derived.Test.YtkfohickmdkplaaJ45
import Derived.Test.YtkfohickmdkplaaJ46
import Derived.Test.YtkfohickmdkplaaJ48
import Derived.Test.YtkfohickmdkplaaJ22
import Derived.Deep.QuietTactic
namespace Go.Proofs.Ytkfohickmdkplaa
open Go.RowKit Go.Proofs.Leb Go.Proofs.Own Go.Proofs.Cur Go.Proofs.Span
set_option maxRecDepth 100000
set_option maxHeartbeats 40000000
theorem allO_er {bs : List UInt8} : ∀ (l : List AskM) (lim : Int) (p : Nat) {q er : Nat}, (allO bs l lim p).2 = .up q er → er ≠ 0
  | [], lim, p, q, er, h => by unfold allO at h; cases h
  | a :: t, lim, p, q, er, h => by
    by_cases h5 : a.doo % 6 = 5
    · have e : (allO bs (a :: t) lim p).2 = withinO (limO a.n lim p) (allO bs t (limO a.n lim p) p).2 := by
        show (if a.doo % 6 = 5 then _ else _ : List (List UInt8) × Out Unit).2 = _
        rw [if_pos h5]
      rw [e] at h
      cases h6 : (allO bs t (limO a.n lim p) p).2 with
      | up q' e' =>
        rw [h6] at h
        cases h
        exact allO_er t _ _ h6
      | ok z q' =>
        rw [h6] at h
        unfold withinO at h
        simp only at h
        split at h
        · cases h
        · cases h; decide
    · cases h6 : askO bs lim a p with
      | up q' e' =>
        rw [allO_up h5 h6] at h
        cases h
        exact askO_er h6
      | ok s q' =>
        rw [allO_ok h5 h6] at h
        exact allO_er t _ _ h
/-- behind both -/
structure Both (W : World) (Bo Be R : Nat) (B : ByteArray) (ux v : Value) (O : List (List UInt8) × Out Unit) : Prop where
  got : RdT W ux O.1
  cell : One1 W Bo ux
  ended : One1 W Be (.bool (okO O.2))
  want : RdT W v O.1
  rd : AnsR W R B (-1) O.2
theorem Both.new {W W' : World} {Bo Be R : Nat} {B : ByteArray} {ux v : Value} {O : List (List UInt8) × Out Unit} (h : Both W Bo Be R B ux v O) (hn : New W W') : Both W' Bo Be R B ux v O := by
  refine ⟨h.got.new hn, h.cell.new hn, h.ended.new hn, h.want.new hn, ?_⟩
  have hr := h.rd
  obtain ⟨o1, o2⟩ := O
  cases o2 with
  | ok z q => exact Rdr.new hr hn
  | up q er =>
    obtain ⟨a, b, c, d⟩ := hr
    exact ⟨a, b, c, d.new hn⟩
theorem reads_any (H : AskedAny) (bv lv : Value) (bs : List UInt8) (l : List AskM) (w : World) (hb : Rd w bv bs) (hbl : bs.length ≤ 9223372036854775807) (hl : RdE 14 EAsk w (fun _ => True) lv l) (hll : l.length ≤ 140737488355328) (hwf : ∀ a ∈ l, WfA a) :
    Calls Try.prog 3 #[bv, lv] w (fun e w' => e = .returned (.bool true) ∧ New w w') := by
  have HH := hid H
  have HB := hid hb
  have HL := hid hl
  have HWF := hid hwf
  have HLL := hid hll
  obtain ⟨ab, cb', rfl⟩ := hb.shape
  obtain ⟨al, cl, rfl⟩ := hl.shape
  have hmf : ∀ (fn : Fn) (first cap : Array Value) (w : World), (Instr.makeFunc fn first cap).run Try.prog w = .ok (.func fn first cap) w := fun _ _ _ _ => rfl
  obtain ⟨w1, hw1⟩ : ∃ w1, w.alloc (.cells #[.slice al l.length cl] 23) = w1 := ⟨_, rfl⟩
  have hn1 : New w w1 := by rw [← hw1]; exact (Upd.refl _ _).alloc _
  have K1 : Hid (One1 w1 w.heap.size (.slice al l.length cl)) := by show One1 _ _ _; rw [← hw1]; exact One1.mk rfl
  have HN1 := hid hn1
  have HF := hid (Fine_any _ l _ w1 (hl.upd EAsk.ok hn1 (fun _ _ h => h)) hwf hll)
  have hs1 : w1.heap.size = w.heap.size + 1 := by rw [← hw1]; simp
  clear H hb hl hwf hll hn1
  have z1 := K1.out.c
  by_cases h600 : bs.length ≤ 600
  · have hd6 : decide ((600 : Int) < (bs.length : Int)) = false := decide_eq_false (by omega)
    go_enter Try.func3, Try.ntmps3
    go_wp2_with fail
    refine HF.out.mono ?_
    rintro e w2 ⟨c, rfl, hn2, hc⟩
    cases c with
    | false =>
      have HN2 := hid hn2
      clear hn2 hc
      go_wp2_with fail
      go_ret
      exact ⟨rfl, New.trans HN1.out HN2.out⟩
    | true =>
      obtain ⟨hl30, hfine⟩ := hc rfl
      have HFI := hid hfine
      have HN2 := hid hn2
      have K2 := hid (K1.out.new hn2)
      have hs2 := hn2.size
      have z2 := K2.out.c
      obtain ⟨w3, hw3⟩ : ∃ w3, (w2.alloc (.cells #[.slice none 0 0] 25)).alloc (.cells #[.bool false] 4) = w3 := ⟨_, rfl⟩
      have hn3 : New w2 w3 := by rw [← hw3]; exact ((Upd.refl _ _).alloc _).alloc _
      have hs3 : w3.heap.size = w2.heap.size + 2 := by rw [← hw3]; simp
      have hg3 : One1 w3 w2.heap.size (.slice none 0 0) := by rw [← hw3]; exact (One1.mk rfl).push _
      have he3 : One1 w3 (w2.heap.size + 1) (.bool false) := by rw [← hw3]; exact One1.mk (by simp)
      have hnw2 : New w w2 := New.trans HN1.out hn2
      have hnw3 : New w w3 := New.trans hnw2 hn3
      have hbt := HB.out.there
      obtain ⟨O, hO⟩ : ∃ O, allO bs l (-1) 0 = O := ⟨_, rfl⟩
      have hin0 : Inv bs.length (-1) 0 := ⟨Nat.zero_le _, by omega, .inl rfl⟩
      have hbap : bs ≠ [] → ∀ k, (Value.slice ab bs.length cb').ownBlock = some k → ¬ (k = w2.heap.size ∨ k = w2.heap.size + 1) := fun hne k hk e => by have := hbt hne k hk; have := hnw2.size; omega
      have HT := hid (Try_any (.slice ab bs.length cb') bs w3 (HB.out.new hnw3) (by omega) 7 #[.pointer (some ⟨w.heap.size, 0, none⟩), .pointer (some ⟨w2.heap.size, 0, none⟩), .pointer (some ⟨w2.heap.size + 1, 0, none⟩)] (fun _ _ => rfl)
        (fun k => k = w2.heap.size ∨ k = w2.heap.size + 1) (fun k hk => by omega) hbap O.2
        (fun W => (∃ ux, Outs W w2.heap.size ux O.1 ∧ ∀ k, ux.ownBlock = some k → w3.heap.size + 4 ≤ k) ∧ One1 W (w2.heap.size + 1) (.bool (okO O.2)))
        (fun a b hu ha => by
          obtain ⟨⟨ux, h1, h2⟩, h3⟩ := ha
          refine ⟨⟨ux, h1.upd hu (fun k hk e => ?_), h2⟩, h3.upd hu (fun e => by omega)⟩
          rcases hk with h | h
          · omega
          · have := h2 k h; omega)
        (fun w4 hw4 hsz hcur => by
          have hn14 : New w1 w4 := New.trans (New.trans hn2 hn3) hw4
          have hnw4 : New w w4 := New.trans hnw3 hw4
          have hout : Outs w4 w2.heap.size (.slice none 0 0) [] := ⟨hg3.new hw4, Texts.nil _, fun h => by cases h⟩
          have hask := HH.out (l.length + 1) l (.slice al l.length cl) (fun k => k < w.heap.size) w4 (w3.heap.size + 1 + 1) w2.heap.size (.slice ab bs.length cb') bs (-1) 0 (.slice none 0 0) [] (Nat.lt_succ_self _) hl30
            ((RdA.of HL.out).new hnw4) (fun k hk => ⟨Nat.lt_of_lt_of_le hk hnw4.size, by
              have h5 := hnw2.size
              rintro (h | h | h)
              · omega
              · omega
              · cases h⟩) HWF.out HFI.out (by simp; omega) ⟨(by
              rintro (h | h)
              · omega
              · cases h), fun hne k hk e => by
              rcases e with h | h
              · exact hbap hne k hk (.inl h)
              · cases h⟩ hcur hin0 hout
          rw [hO] at hask
          refine (reads1_any (w3.heap.size + 1 + 1) w.heap.size w2.heap.size (w2.heap.size + 1) (.slice al l.length cl) (.slice ab bs.length cb') bs (-1) w4 O ((K1.out.new hn14)) (he3.new hw4) (by omega) (by omega) (fun hne e => hbap hne _ e (.inr rfl)) hask).mono ?_
          rintro e w5 ⟨ha, hb, ⟨ux, hc, hd⟩, he⟩
          exact ⟨ha, hb, ⟨ux, hc, fun k hk => by have := hd k hk; omega⟩, he⟩))
      have HN3 := hid hn3
      have HNW := hid hnw3
      have HO := hid hO
      have HW3 := hid hw3
      clear hn2 hc hfine hw1 hn3 hg3 he3 hnw2 hnw3 hbt hin0 hbap hO hw3
      go_wp2_with fail
      rw [HW3.out]
      refine HT.out.mono ?_
      rintro e w4 ⟨rfl, hu4, ⟨ux, ho4, hg4⟩, he4⟩
      have HU4 := hid hu4
      have HO4 := hid ho4
      have HE4 := hid he4
      have hst := (HB.out.new HNW.out).upd2 hu4 (fun hne k hk e => by have := HB.out.there hne k hk; have h6 := HNW.out.size; omega)
      have hstr := hst.str
      have HRB := hid (fun W => rNew_any ⟨bs.toArray⟩ W)
      have HK4 := hid ((K2.out.new HN3.out).upd hu4 (by omega))
      have hnw4 : New w w4 := Upd.trans HNW.out hu4 (fun k hk e => by have := HN1.out.size; omega)
      have HNW4 := hid hnw4
      have hsz4 := hu4.size
      clear hu4 ho4 he4 hst hnw4
      go_wp2_with fail
      refine (HRB.out _).mono ?_
      rintro e w5 ⟨rfl, hn5, hr5⟩
      have z5 := (HK4.out.new hn5).c
      have hnw5 := New.trans HNW4.out hn5
      have hdata : (⟨bs.toArray⟩ : ByteArray).data.toList = bs := by simp
      have HA := hid (answers_any (l.length + 1) l (.slice al l.length cl) (fun k => k < w.heap.size) w5 w4.heap.size ⟨bs.toArray⟩ (-1) 0 (Nat.lt_succ_self _) hl30 ((RdA.of HL.out).new hnw5) (fun k hk => by have h6 := HNW4.out.size; show k ≠ _; omega) HWF.out HFI.out hr5
        ⟨Nat.zero_le _, by show bs.toArray.size ≤ _; simp; omega, .inl rfl⟩)
      rw [hdata, HO.out] at HA
      have HN5 := hid hn5
      clear hn5 hr5 hnw5 hdata
      go_wp2_with fail
      refine HA.out.mono ?_
      rintro e w6 ⟨v6, rfl, ht6, hu6, -, hr6⟩
      have hB6 : Hid (Both w6 w2.heap.size (w2.heap.size + 1) w4.heap.size ⟨bs.toArray⟩ ux v6 O) := by
        have h4 := HO4.out.lt
        have h5 := HO4.out.cell.lt
        have h6 := HE4.out.lt
        exact ⟨((HO4.out.txt.new HN5.out).upd hu6 (fun k hk e => by have := h4 k hk; omega)).rd, (HO4.out.cell.new HN5.out).upd hu6 (by omega), (HE4.out.new HN5.out).upd hu6 (by omega), ht6.rd, hr6⟩
      have HNW6 : Hid (New w w6) := Upd.trans (New.trans HNW4.out HN5.out) hu6 (fun k hk e => by have := HNW4.out.size; omega)
      have HAW := hid (fun W => awake_any W)
      clear ht6 hu6 hr6
      have BW := hB6.out
      obtain ⟨a1, c1, rfl, hcl1, -, hc1⟩ := id BW.got
      obtain ⟨a2, c2, rfl, hcl2, -, hc2⟩ := id BW.want
      have HC1 := hid hc1
      have HC2 := hid hc2
      have g6 := BW.cell.c
      clear hc1 hc2
      have hlen : O.1.length ≤ 90 := by rw [← HO.out]; have := allO_len (bs := bs) l (-1) 0; omega
      obtain ⟨nn, hnn⟩ : ∃ nn, O.1.length = nn := ⟨_, rfl⟩
      have HNNN := hid hnn
      have HER := hid (fun q er (h : O.2 = .up q er) => allO_er l (-1) 0 (q := q) (er := er) (by rw [HO.out]; exact h))
      rw [hnn] at hcl1 hcl2 hlen
      simp only [hnn] at g6
      rw [hnn]
      clear hnn
      obtain ⟨o1, o2⟩ := O
      cases o2 with
      | ok z q =>
        have hrd : Rdr w6 w4.heap.size ⟨bs.toArray⟩ q (-1) 0 0 := BW.rd
        have q3 := hrd.c3
        have e6 : w6.cell? ⟨w2.heap.size + 1, 0, none⟩ = some (.bool true) := BW.ended.c
        have HRD := hid hrd
        unfold placeO errO
        simp only
        clear BW hrd
        go_wp2_with fail
        go_quiet (fail)
        go_wp2_with fail
        go_loopg [11] nn (fun k a W => ∃ i : Nat, k = nn - i ∧ a = .int .i64 i ∧ i ≤ nn ∧ New w6 W)
        case atStart => exact ⟨0, rfl, rfl, Nat.zero_le _, by first | exact Upd.refl _ _ | exact (Upd.refl _ _).drew | exact drewN_new _ _⟩
        case round =>
          obtain ⟨i, rfl, rfl, hi, hW⟩ := hrel
          have HWW := hid hW
          by_cases hlt : i < nn
          · have hio : i < o1.length := by have : o1.length = nn := HNNN.out; omega
            have hne : o1 ≠ [] := by intro e; subst e; simp at hio
            obtain ⟨b1, p1, rfl, d1⟩ := HC1.out hne
            obtain ⟨b2, p2, rfl, d2⟩ := HC2.out hne
            have x1 := hW.cell (d1 i hio) (fun h => h)
            have x2 := hW.cell (d2 i hio) (fun h => h)
            have gW := hW.cell g6 (fun h => h)
            unfold strV at x1 x2
            clear hW d1 d2 hne
            go_wp2_with fail
            go_quiet (fail)
            go_wp2_with fail
            go_roundg (nn - (i + 1))
            case measure => omega
            case rel => exact ⟨i + 1, rfl, by go_num, by omega, by first | exact HWW.out | exact HWW.out.drew | exact New.trans HWW.out (drewN_new _ _)⟩
          · obtain rfl : i = nn := by omega
            have HR7 := hid (HRD.out.new hW)
            have q3 := HR7.out.c3
            have q1 := HR7.out.c1
            clear hW
            go_wp2_with fail
            refine (HAW.out _).mono ?_
            rintro e w7 ⟨rfl, hn7⟩
            have HN7 := hid hn7
            clear hn7
            go_wp2_with fail
            go_ret
            exact ⟨rfl, New.trans (New.trans HNW6.out HWW.out) HN7.out⟩
      | up q er =>
        obtain ⟨hne0, p', lim', hrd⟩ : AnsR w6 w4.heap.size ⟨bs.toArray⟩ (-1) (.up q er) := BW.rd
        have hb0 : ((er : Int) == 0) = false := by rw [beq_eq_false_iff_ne]; omega
        have q3 := hrd.c3
        have e6 : w6.cell? ⟨w2.heap.size + 1, 0, none⟩ = some (.bool false) := BW.ended.c
        have HRD := hid hrd
        unfold placeO errO
        simp only
        clear BW hrd
        go_wp2_with fail
        go_quiet (fail)
        go_wp2_with fail
        go_loopg [11] nn (fun k a W => ∃ i : Nat, k = nn - i ∧ a = .int .i64 i ∧ i ≤ nn ∧ New w6 W)
        case atStart => exact ⟨0, rfl, rfl, Nat.zero_le _, by first | exact Upd.refl _ _ | exact (Upd.refl _ _).drew | exact drewN_new _ _⟩
        case round =>
          obtain ⟨i, rfl, rfl, hi, hW⟩ := hrel
          have HWW := hid hW
          by_cases hlt : i < nn
          · have hio : i < o1.length := by have : o1.length = nn := HNNN.out; omega
            have hne : o1 ≠ [] := by intro e; subst e; simp at hio
            obtain ⟨b1, p1, rfl, d1⟩ := HC1.out hne
            obtain ⟨b2, p2, rfl, d2⟩ := HC2.out hne
            have x1 := hW.cell (d1 i hio) (fun h => h)
            have x2 := hW.cell (d2 i hio) (fun h => h)
            have gW := hW.cell g6 (fun h => h)
            unfold strV at x1 x2
            clear hW d1 d2 hne
            go_wp2_with fail
            go_quiet (fail)
            go_wp2_with fail
            go_roundg (nn - (i + 1))
            case measure => omega
            case rel => exact ⟨i + 1, rfl, by go_num, by omega, by first | exact HWW.out | exact HWW.out.drew | exact New.trans HWW.out (drewN_new _ _)⟩
          · obtain rfl : i = nn := by omega
            have HR7 := hid (HRD.out.new hW)
            have q3 := HR7.out.c3
            have q4 := HR7.out.c4
            clear hW
            go_wp2_with fail
            refine (HAW.out _).mono ?_
            rintro e w7 ⟨rfl, hn7⟩
            have HN7 := hid hn7
            clear hn7
            go_wp2_with fail
            go_ret
            exact ⟨rfl, New.trans (New.trans HNW6.out HWW.out) HN7.out⟩
  · have hd6 : decide ((600 : Int) < (bs.length : Int)) = true := decide_eq_true (by omega)
    go_enter Try.func3, Try.ntmps3
    go_wp2_with fail
    go_ret
    exact ⟨rfl, HN1.out⟩
end Go.Proofs.Ytkfohickmdkplaa
