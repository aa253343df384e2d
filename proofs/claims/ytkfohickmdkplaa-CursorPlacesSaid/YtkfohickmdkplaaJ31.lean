/-
  The document's reader: a text.
-/
import Derived.Test.YtkfohickmdkplaaJ25
import Derived.Test.YtkfohickmdkplaaJ29
import Derived.Test.YtkfohickmdkplaaJ30
namespace Go.Proofs.Ytkfohickmdkplaa
open Go.RowKit Go.Proofs.Leb Go.Proofs.Own Go.Proofs.Cur Go.Proofs.Utf
set_option maxRecDepth 100000
set_option maxHeartbeats 4000000

/-- a text, whichever sizes may stand -/
noncomputable def nameS (bs : List UInt8) (lim : Int) (S : Int → Nat → Prop) (p : Nat) : Out (List UInt8) :=
  (uintO bs lim S p).bind fun ds q => (nameL bs lim (val ds) [] q).bind fun _ q' => .ok ((bs.drop q).take (val ds)) q'
/-- of how many bytes a text may be -/
def lenW (b1 b2 : Int) : Wnt := ⟨1, 0, 0, 1, 1, 0, 0, b1, b2, []⟩
theorem lenW_ok (b1 b2 : Int) (w : World) (hb : Span.right b1 b2) (h2 : b2 ≤ 9223372036854775807) : WantOk (lenW b1 b2) (.slice none 0 0) w :=
  ⟨⟨(by decide : (0 : Nat) < 18446744073709551616), (by decide : (0 : Nat) < 18446744073709551616), fun _ => by unfold lenW Span.item Span.right; simp only; omega, (fun h => by unfold lenW at h; simp at h), fun _ => hb, ⟨by unfold lenW; simp, by unfold lenW; simp, h2⟩⟩,
    .inr (.inl rfl), ⟨none, 0, rfl, Nat.le_refl _, fun _ => rfl, fun h => absurd rfl h⟩, Nat.zero_le _, (fun y hy => by unfold lenW at hy; simp at hy), (fun y hy => by unfold lenW at hy; simp at hy)⟩
theorem nameL_next {bs : List UInt8} {lim : Int} {k : Nat} {cur : List UInt8} {p : Nat} : (∀ q er, nextO bs lim p = .up q er → nameL bs lim (k + 1) cur p = .up q er) ∧
    (∀ x q, nextO bs lim p = .ok x q → (mayN (k + 1) cur x 0 → nameL bs lim (k + 1) cur p = nameL bs lim k (if (need (cur ++ [x])).1 = 0 then [] else cur ++ [x]) q) ∧ (¬ mayN (k + 1) cur x 0 → nameL bs lim (k + 1) cur p = .up p 2)) := by
  have hm : ∀ x r, mayN (k + 1) cur x r = mayN (k + 1) cur x 0 := fun _ _ => rfl
  constructor
  · intro q er h
    rw [nameL_step, byte_next, h]; rfl
  · intro x q h
    constructor
    · intro hy
      rw [nameL_step, byte_next, h]
      simp only
      rw [if_pos (by rw [hm]; exact hy)]; rfl
    · intro hy
      rw [nameL_step, byte_next, h]
      simp only
      rw [if_neg (by rw [hm]; exact hy)]; rfl

theorem byteO_er {bs : List UInt8} {lim : Int} {may : UInt8 → Int → Prop} {p q er : Nat} (h : byteO bs lim may p = .up q er) : er ≠ 0 := by
  unfold byteO at h
  split at h
  · cases h; decide
  · split at h
    · split at h
      · cases h
      · cases h; decide
    · cases h; decide
theorem numO_er {bs : List UInt8} {lim : Int} {may : List UInt8 → UInt8 → Int → Prop} : ∀ {n : Nat} {ds : List UInt8} {p q er : Nat}, numO bs lim may n ds p = .up q er → er ≠ 0
  | 0, _, _, _, _, h => by cases h; decide
  | n + 1, ds, p, q, er, h => by
    rw [numO_step] at h
    cases hb : byteO bs lim (may ds) p with
    | up q' e' => rw [hb] at h; cases h; exact byteO_er hb
    | ok x q' =>
      rw [hb] at h
      simp only [Out.bind] at h
      split at h
      · cases h
      · exact numO_er h
structure TInv (R : Nat) (B : ByteArray) (lim : Int) (q0 n : Nat) (L : Out Unit) (w : World) (i s k : Nat) (A : ByteArray) (wr : World) : Prop where
  up : Upd (· = R) w wr
  sz : A.size = i
  si : s ≤ i
  st : (Rdr wr R B (q0 + i) lim 0 0 ∧ Inv B.size lim (q0 + i) ∧ i ≤ n ∧ A = ⟨((B.data.toList.drop q0).take i).toArray⟩ ∧ k = n - i + 1 ∧ nameL B.data.toList lim (n - i) (A.data.toList.drop s) (q0 + i) = L) ∨
    (∃ p' er sp, er ≠ 0 ∧ Rdr wr R B p' lim er sp ∧ L = .up sp er ∧ k = 0 ∧ i ≤ n)

theorem rName_any {w : World} {R : Nat} {B : ByteArray} {p : Nat} {lim : Int} (h : Rdr w R B p lim 0 0) (hi : Inv B.size lim p) (b1 b2 : Int) (hb : Span.right b1 b2) (hb2 : b2 ≤ 9223372036854775807) :
    Calls Try.prog 35 #[.pointer (some ⟨R, 0, none⟩), .agg #[.int .i64 b1, .int .i64 b2]] w (RGot R B lim strV (nameS B.data.toList lim (lenW b1 b2).may p) w) := by
  have HI := hid hi
  have il := hi.len
  have hR := h.lt
  obtain ⟨O, hO⟩ : ∃ O, nameS B.data.toList lim (lenW b1 b2).may p = O := ⟨_, rfl⟩
  have HO := hid hO
  rw [hO]
  have hn0 : New w ((w.alloc (.cells #[.int .i64 b1, .int .i64 b2] 44)).alloc (.cells #[.int .i64 1, .int .i64 1] 44)) := ((Upd.refl _ _).alloc _).alloc _
  have HU := hid (rUint_any (h.new hn0) hi (lenW b1 b2) (.slice none 0 0) (lenW_ok b1 b2 _ hb hb2) (fun _ k hk => by cases hk))
  have HN0 := hid hn0
  have HL := hid (size_list B)
  clear hi h hO hn0 hb hb2
  go_enter Try.func35, Try.ntmps35
  go_wp2_with fail
  refine HU.out.mono ?_
  rintro e w1 ⟨hu1, hm1⟩
  have U1 := hid (new_upd HN0.out hu1 hR)
  cases ho : uintO B.data.toList lim (lenW b1 b2).may p with
  | up q er =>
    rw [ho] at hm1
    obtain ⟨a, p', rfl, hr1⟩ := hm1
    have HO1 : Hid (O = .up q er) := by show _ = _; rw [← HO.out]; unfold nameS; rw [ho]; rfl
    have hne := numO_er ho
    have c3 := hr1.c3
    have hb : ((er : Int) == 0) = false := by rw [beq_eq_false_iff_ne]; omega
    have HR1 := hid hr1
    unfold UintV
    have hn32 : val a % 4294967296 < 4294967296 := Nat.mod_lt _ (by decide)
    generalize val a % 4294967296 = n' at *
    clear ho hr1 hu1 hne
    go_wp2_with fail
    refine wp_loop_rounds 1 ?_
    rw [rounds_succ]
    by_cases hn : 0 < n'
    all_goals
      go_wp2_with fail
      go_ret
      exact RGot.mk_up [] HO1.out U1.out rfl HR1.out
  | ok ds q0 =>
    rw [ho] at hm1
    obtain ⟨rfl, hr1⟩ := hm1
    obtain ⟨-, hlt, hiq, -, -⟩ := uintO_ok ho
    rw [HL.out] at hiq
    have HIQ := hid (hiq HI.out)
    obtain ⟨n, hn⟩ : ∃ n, val ds = n := ⟨_, rfl⟩
    rw [hn] at hlt
    obtain ⟨L, hL⟩ : ∃ L, nameL B.data.toList lim n [] q0 = L := ⟨_, rfl⟩
    have HO1 : Hid (O = L.bind fun _ q' => .ok ((B.data.toList.drop q0).take n) q') := by
      show _ = _; rw [← HO.out]; unfold nameS; rw [ho]; simp only [Out.bind]; rw [hn, hL]
    have HV : UintV ds = .int .u32 n := by unfold UintV; rw [hn, Nat.mod_eq_of_lt hlt]
    rw [HV]
    have i0 : TInv R B lim q0 n L w 0 0 (n + 1) ⟨#[]⟩ w1 := ⟨U1.out, rfl, Nat.le_refl _, .inl ⟨hr1, HIQ.out, Nat.zero_le _, by simp, rfl, by simpa using hL⟩⟩
    have I0 := hid i0
    have HLL := hid hL
    clear ho hr1 hu1 hiq hn hL HV i0
    go_wp2_with fail
    go_loopg [7, 8, 9, 10, 11] (n + 1) (fun k a b _ _ _ wr => ∃ (i s : Nat) (A : ByteArray), a = .string A ∧ b = .int .i64 s ∧ TInv R B lim q0 n L w i s k A wr)
    case atStart => exact ⟨0, 0, ⟨#[]⟩, rfl, rfl, I0.out⟩
    case round =>
      obtain ⟨i, s, A, rfl, rfl, hinv⟩ := hrel
      have IR := hid hinv
      have hsz := hinv.sz
      have hsi := hinv.si
      clear hinv I0
      rcases IR.out.st with ⟨hq, hiq, hin, hA, hk, hnm⟩ | ⟨p', er, sp, he, hr, ho, hk, hib⟩
      · obtain ⟨q1, hq1⟩ : ∃ q1, q0 + i = q1 := ⟨_, rfl⟩
        rw [hq1] at hq hiq hnm
        have HQ1 := hid hq1
        have HIQ2 := hid hiq
        have HA := hid hA
        have HK := hid hk
        have HNM := hid hnm
        have c3 := hq.c3
        have hbl := hiq.len
        have hpl0 := hiq.place
        by_cases hlt : i < n
        · have hlti : (A.size : Int) < (n : Int) := by omega
          obtain ⟨k', hk'⟩ : ∃ k', n - i = k' + 1 := ⟨n - i - 1, by omega⟩
          obtain ⟨cur, hcur⟩ : ∃ cur, A.data.toList.drop s = cur := ⟨_, rfl⟩
          rw [hk', hcur] at hnm
          have HNX := hid (rNext_any hq hiq)
          have NX := hid (nameL_next (bs := B.data.toList) (lim := lim) (k := k') (cur := cur) (p := q1))
          have HNM2 := hid hnm
          have HKP := hid hk'
          have HCUR := hid hcur
          clear hq hiq hA hk hin hnm hk' hcur hq1
          go_wp2_with fail
          refine HNX.out.mono ?_
          rintro e w2 ⟨hu2, hm2⟩
          have U2 := hid (IR.out.up.trans hu2 (fun _ _ h => h))
          cases ho : nextO B.data.toList lim q1 with
          | up q' er =>
            rw [ho] at hm2
            obtain ⟨a, p', rfl, hr2⟩ := hm2
            have hne := nextO_er ho
            have HOU : Hid (O = .up q' er) := by
              show _ = _
              have := NX.out.1 _ _ ho
              rw [HNM2.out] at this
              rw [HO1.out, this]; rfl
            have c3 := hr2.c3
            have hb : ((er : Int) != 0) = true := by rw [bne_iff_ne]; omega
            have HR2 := hid hr2
            clear ho hr2 hu2 hne
            unfold cb
            go_wp2_with fail
            go_ret
            exact RGot.mk_up [] HOU.out U2.out rfl HR2.out
          | ok b q' =>
            rw [ho] at hm2
            obtain ⟨rfl, hr2⟩ := hm2
            have hno := nextO_ok ho
            have NXB := hid (NX.out.2 _ _ ho)
            obtain ⟨hq2, hpl, hr0⟩ := hno
            have hbx : b = (B.data.toList)[q1] := by
              unfold nextO at ho
              rw [if_neg hr0, dif_pos hpl] at ho
              cases ho; rfl
            rw [HL.out] at hpl
            have HBX : Hid (B.data.toList[q1]? = some b) := by
              show _ = _
              rw [hbx]; exact List.getElem?_eq_getElem _
            have hiq3 := HIQ2.out.next hr0 hpl
            rw [← hq2] at hiq3
            have HIQ3 := hid hiq3
            have HQ2 := hid hq2
            have HR2 := hid hr2
            have hcv := conv1 w2 b
            have hn3 := (Upd.refl (fun _ => False) w2).alloc (.cells #[.int .u8 b.toNat] 5)
            have H3 := hid (HR2.out.new hn3)
            have U3 := hid (U2.out.thenNew hn3)
            have c3 := hr2.c3
            clear ho hr2 hu2 hbx hr0 hq2 hiq3
            unfold cb
            generalize hB1 : (⟨[b].toArray⟩ : ByteArray) = B1 at *
            have hB1s : B1.size = 1 := by rw [← hB1]; rfl
            have hsz1 : ¬ 9223372036854775807 < A.size + B1.size := by omega
            obtain ⟨A2, hA2⟩ : ∃ A2, A ++ B1 = A2 := ⟨_, rfl⟩
            have hA2s : A2.size = i + 1 := by rw [← hA2, ByteArray.size_append, hsz, hB1s]
            have hA2l : A2.data.toList = A.data.toList ++ [b] := by
              rw [← hA2, ← hB1]
              simp
            have HSUB := hid (sub_list A2 s)
            have hdrop : A2.data.toList.drop s = cur ++ [b] := by
              rw [hA2l, List.drop_append_of_le_length (by rw [size_list]; omega), HCUR.out]
            have HND := hid (fun W => rNeed_any (A2.extract s A2.size) W (by have := HQ1.out; rw [HSUB.out.2]; omega))
            rw [HSUB.out.1, hdrop] at HND
            obtain ⟨m, hm⟩ : ∃ m, (need (cur ++ [b])).1 = m := ⟨_, rfl⟩
            obtain ⟨ok, hok⟩ : ∃ ok, (need (cur ++ [b])).2 = ok := ⟨_, rfl⟩
            have HMN : Hid (mayN (k' + 1) cur b 0 ↔ ok = true ∧ m < k' + 1) := by show _ ↔ _; unfold mayN; rw [hm, hok]
            rw [hm, hok] at HND
            rw [hm] at NXB
            have hsl : (s : Int) ≤ (A2.size : Int) := by omega
            have HA2L := hid hA2l
            have HA2S := hid hA2s
            have HDR := hid hdrop
            have HAA := hid (show A2 = ⟨((B.data.toList.drop q0).take (i + 1)).toArray⟩ from by
              rw [← hA2, ← hB1, HA.out, st_cat2]
              congr 2
              rw [List.take_add_one, List.getElem?_drop, HQ1.out, HBX.out]
              rfl)
            have hA2b : A2.size ≤ 4294967296 := by omega
            clear hm hok hA2l hdrop hB1 hA2s
            have hn3' := hid hn3
            clear hn3
            go_wp2_with fail
            generalize w2.alloc (.cells #[.int .u8 b.toNat] 5) = w3 at *
            refine (HND.out _).mono ?_
            rintro e w4 ⟨rfl, hn4⟩
            have h4 := H3.out.new hn4
            have H4 := hid h4
            have U4 := hid (U3.out.thenNew hn4)
            have c1 := h4.c1
            have hps : (q' : Int) - 1 = (q1 : Int) := by have := HQ2.out; omega
            have hqb : q' ≤ 1000000001 := by have := HQ2.out; omega
            have hkk : (m : Int) ≤ (n : Int) - (A2.size : Int) ↔ m < k' + 1 := by have := HKP.out; have := HA2S.out; omega
            have HKK := hid hkk
            have m3 : m ≤ 4294967296 ∨ True := .inr trivial
            clear hn4 h4 hcv hkk m3
            have fin : ∀ w5 (c : Bool), Rdr w5 R B q' lim (if c then 0 else 2) (if c then 0 else q1) → Upd (· = R) w w5 → (c = true ↔ mayN (k' + 1) cur b 0) → ∀ s', (s' = if m = 0 then i + 1 else s) →
                ∃ kk, kk < n - i + 1 ∧ TInv R B lim q0 n L w (i + 1) s' kk A2 w5 := by
              intro w5 c h5 u5 hc s' hs'
              cases c with
              | true =>
                have hm := NXB.out.1 (hc.1 rfl)
                rw [HNM2.out] at hm
                refine ⟨n - (i + 1) + 1, by omega, u5, HA2S.out, by rw [hs']; split <;> omega, .inl ⟨?_, ?_, hlt, HAA.out, rfl, ?_⟩⟩
                · rw [show q0 + (i + 1) = q' by have := HQ1.out; have := HQ2.out; omega]; exact h5
                · rw [show q0 + (i + 1) = q' by have := HQ1.out; have := HQ2.out; omega]; exact HIQ3.out
                · rw [show q0 + (i + 1) = q' by have := HQ1.out; have := HQ2.out; omega, show n - (i + 1) = k' by have := HKP.out; omega, hm, hs']
                  by_cases hz : m = 0
                  · rw [if_pos hz, if_pos hz]
                    congr 1
                    rw [List.drop_eq_nil_iff, size_list, HA2S.out]
                    exact Nat.le_refl _
                  · rw [if_neg hz, if_neg hz, HDR.out]
              | false =>
                have hm := NXB.out.2 (fun h => by have := hc.2 h; simp at this)
                rw [HNM2.out] at hm
                exact ⟨0, by omega, u5, HA2S.out, by rw [hs']; split <;> omega, .inr ⟨q', 2, q1, by decide, h5, hm, rfl, by omega⟩⟩
            have FIN := hid fin
            clear fin
            by_cases hz : m = 0
            · have hzb : ((m : Int) == 0) = true := by rw [beq_iff_eq]; omega
              have hA2i : (A2.size : Int) = ((i + 1 : Nat) : Int) := by have := HA2S.out; omega
              have HA2I := hid hA2i
              have HZ := hid hz
              clear hz hA2i
              cases ok with
              | false =>
                have HND2 := hid (rNeed_any' H4.out false q1)
                go_wp2_with fail
                refine HND2.out.mono ?_
                rintro e w5 ⟨rfl, h5, u5⟩
                obtain ⟨kk, hkk, hT⟩ := FIN.out w5 false h5 (U4.out.trans u5 (fun _ _ h => h)) (by rw [HMN.out]; simp) (i + 1) (by rw [if_pos HZ.out])
                have HT := hid hT
                clear h5 u5 hT
                go_wp2_with fail
                go_roundg kk
                case measure => rw [HK.out]; exact hkk
                case rel => exact ⟨i + 1, i + 1, A2, rfl, by rw [HA2I.out], HT.out⟩
              | true =>
                have hlm : (m : Int) ≤ (n : Int) - (A2.size : Int) := HKK.out.2 (by have := HZ.out; omega)
                have HND2 := hid (rNeed_any' H4.out true q1)
                go_wp2_with fail
                refine HND2.out.mono ?_
                rintro e w5 ⟨rfl, h5, u5⟩
                obtain ⟨kk, hkk, hT⟩ := FIN.out w5 true h5 (U4.out.trans u5 (fun _ _ h => h)) (by rw [HMN.out]; simp; have := HZ.out; omega) (i + 1) (by rw [if_pos HZ.out])
                have HT := hid hT
                clear h5 u5 hT
                go_wp2_with fail
                go_roundg kk
                case measure => rw [HK.out]; exact hkk
                case rel => exact ⟨i + 1, i + 1, A2, rfl, by rw [HA2I.out], HT.out⟩
            · have hzb : ((m : Int) == 0) = false := by rw [beq_eq_false_iff_ne]; omega
              have HZ := hid hz
              clear hz
              cases ok with
              | false =>
                have HND2 := hid (rNeed_any' H4.out false q1)
                go_wp2_with fail
                refine HND2.out.mono ?_
                rintro e w5 ⟨rfl, h5, u5⟩
                obtain ⟨kk, hkk, hT⟩ := FIN.out w5 false h5 (U4.out.trans u5 (fun _ _ h => h)) (by rw [HMN.out]; simp) s (by rw [if_neg HZ.out])
                have HT := hid hT
                clear h5 u5 hT
                go_wp2_with fail
                go_roundg kk
                case measure => rw [HK.out]; exact hkk
                case rel => exact ⟨i + 1, s, A2, rfl, rfl, HT.out⟩
              | true =>
                by_cases hml : m < k' + 1
                · have hlm : (m : Int) ≤ (n : Int) - (A2.size : Int) := HKK.out.2 hml
                  have HND2 := hid (rNeed_any' H4.out true q1)
                  have HML := hid hml
                  go_wp2_with fail
                  refine HND2.out.mono ?_
                  rintro e w5 ⟨rfl, h5, u5⟩
                  obtain ⟨kk, hkk, hT⟩ := FIN.out w5 true h5 (U4.out.trans u5 (fun _ _ h => h)) (by rw [HMN.out]; simp; have := HML.out; omega) s (by rw [if_neg HZ.out])
                  have HT := hid hT
                  clear h5 u5 hT
                  go_wp2_with fail
                  go_roundg kk
                  case measure => rw [HK.out]; exact hkk
                  case rel => exact ⟨i + 1, s, A2, rfl, rfl, HT.out⟩
                · have hlm : ¬ (m : Int) ≤ (n : Int) - (A2.size : Int) := fun h => hml (HKK.out.1 h)
                  have hld : decide ((m : Int) ≤ (n : Int) - (A2.size : Int)) = false := decide_eq_false hlm
                  clear hlm
                  have HND2 := hid (rNeed_any' H4.out false q1)
                  have HML := hid hml
                  go_wp2_with fail
                  refine HND2.out.mono ?_
                  rintro e w5 ⟨rfl, h5, u5⟩
                  obtain ⟨kk, hkk, hT⟩ := FIN.out w5 false h5 (U4.out.trans u5 (fun _ _ h => h)) (by rw [HMN.out]; simp; have := HML.out; omega) s (by rw [if_neg HZ.out])
                  have HT := hid hT
                  clear h5 u5 hT
                  go_wp2_with fail
                  go_roundg kk
                  case measure => rw [HK.out]; exact hkk
                  case rel => exact ⟨i + 1, s, A2, rfl, rfl, HT.out⟩
        · obtain rfl : i = n := by omega
          have HLK : Hid (L = .ok () q1) := by show _ = _; rw [← HNM.out, Nat.sub_self]; rfl
          have HO5 : Hid (O = .ok ((B.data.toList.drop q0).take i) q1) := by
            show _ = _
            rw [HO1.out, HLK.out]; rfl
          have hlti : ¬ (A.size : Int) < (i : Int) := by omega
          have HQ := hid hq
          clear hq hiq hA hk hnm hin hq1
          go_wp2_with fail
          go_ret
          refine RGot.mk_ok HO5.out IR.out.up ?_ HQ.out
          unfold strV
          rw [← HA.out]
          rfl
      · have HE := hid he
        have HR := hid hr
        have HO2 : Hid (O = .up sp er) := by show _ = _; rw [HO1.out, ho]; rfl
        have c3 := hr.c3
        have hb : ((er : Int) == 0) = false := by rw [beq_eq_false_iff_ne]; omega
        clear he hr ho
        by_cases hlt : i < n
        all_goals
          first | (have hlti : (A.size : Int) < (n : Int) := by omega) | (have hlti : ¬ (A.size : Int) < (n : Int) := by omega)
          go_wp2_with fail
          go_ret
          exact RGot.mk_up (A.data.toList) HO2.out IR.out.up (by unfold strV; rfl) HR.out
end Go.Proofs.Ytkfohickmdkplaa
