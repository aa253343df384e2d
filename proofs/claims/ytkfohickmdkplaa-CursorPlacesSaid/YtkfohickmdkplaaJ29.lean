/-
  The cursor: a text, byte by byte.
-/
import Derived.Test.YtkfohickmdkplaaJ15
import Derived.Test.YtkfohickmdkplaaJ20
import Derived.Test.YtkfohickmdkplaaJ23
import Derived.Test.YtkfohickmdkplaaJ27
import Derived.Test.YtkfohickmdkplaaJ28
import Derived.Laws.DeepStrings4
namespace Go.Proofs.Ytkfohickmdkplaa
open Go.RowKit Go.Proofs.Leb Go.Proofs.Own Go.Proofs.Cur Go.Proofs.Utf
set_option maxRecDepth 100000
set_option maxHeartbeats 4000000

/-- may a byte stand in a text: what of a sign was read, how many bytes may still come, this one among them -/
def mayN (k : Nat) (cur : List UInt8) (x : UInt8) (_ : Int) : Prop := (need (cur ++ [x])).2 = true ∧ (need (cur ++ [x])).1 < k
noncomputable def nameL (bs : List UInt8) (lim : Int) : Nat → List UInt8 → Nat → Out Unit
  | 0, _, p => .ok () p
  | k + 1, cur, p => (byteO bs lim (mayN (k + 1) cur) p).bind fun x q => nameL bs lim k (if (need (cur ++ [x])).1 = 0 then [] else cur ++ [x]) q
def sizesW (b1 b2 : Int) (r : Int) : List (Nat × Nat) := [((Span.sizes 0 1099511627776 b1 b2 r).1.toNat, (Span.sizes 0 1099511627776 b1 b2 r).2.toNat)]
noncomputable def nameO (bs : List UInt8) (lim b1 b2 : Int) (p : Nat) : Out (List UInt8) :=
  (uintO bs lim (inW (sizesW b1 b2)) p).bind fun ds q => (nameL bs lim (val ds) [] q).bind fun _ q' => .ok ((bs.drop q).take (val ds)) q'

theorem Name2_any (x : UInt8) (r : Int) (Bt Bs Bi Bn : Nat) (T : ByteArray) (s i n : Nat) (cur : List UInt8) (w : World) (hT : (T.extract s (i + 1)).data.toList = cur ++ [x]) (hsi : s ≤ i) (hi : i < T.size) (hin : i < n) (hn : n < 4294967296)
    (kt : w.cell? ⟨Bt, 0, none⟩ = some (.string T)) (ks : One1 w Bs (.int .i64 s)) (ki : One1 w Bi (.int .i64 i)) (kn : One1 w Bn (.int .i64 n)) (d1 : Bs ≠ Bi) (d2 : Bs ≠ Bn) :
    Calls Try.prog 58 #[cb x, .int .i64 r, .pointer (some ⟨Bt, 0, none⟩), .pointer (some ⟨Bs, 0, none⟩), .pointer (some ⟨Bi, 0, none⟩), .pointer (some ⟨Bn, 0, none⟩)] w
      (YesK (mayN (n - i) cur x r) (· = Bs) (fun w' => One1 w' Bs (.int .i64 (if (need (cur ++ [x])).1 = 0 then i + 1 else s : Nat))) w) := by
  have hsz : (T.extract s (i + 1)).size = i + 1 - s := by simp only [ByteArray.size_extract]; omega
  have HN := hid (fun w => Need_any (T.extract s (i + 1)) w (by rw [hsz]; omega))
  rw [hT] at HN
  obtain ⟨m, hm⟩ : ∃ m, (need (cur ++ [x])).1 = m := ⟨_, rfl⟩
  obtain ⟨ok, hok⟩ : ∃ ok, (need (cur ++ [x])).2 = ok := ⟨_, rfl⟩
  have hm3 : m ≤ 9223372036854775807 ∨ True := .inr trivial
  have HMY : Hid (mayN (n - i) cur x r ↔ ok = true ∧ m < n - i) := by show _ ↔ _; unfold mayN; rw [hm, hok]
  rw [hm, hok] at HN
  rw [hm]
  have ct := kt
  have cs := ks.c
  have ci := ki.c
  have cn := kn.c
  have fs := ks.f
  have KS := hid ks
  have KI := hid ki
  have KN := hid kn
  clear hT hsz hm hok hm3 ks ki kn kt
  unfold cb
  by_cases m0 : m = 0
  · have mb : ((m : Int) == 0) = true := by rw [beq_iff_eq]; omega
    have k1 : One1 (w.setCell ⟨Bs, 0, none⟩ (.int .i64 (i + 1 : Nat))) Bs (.int .i64 (i + 1 : Nat)) := KS.out.put
    have k2 := (KI.out.other (p := ⟨Bs, 0, none⟩) (v := .int .i64 (i + 1 : Nat)) (by simp; omega))
    have k3 := (KN.out.other (p := ⟨Bs, 0, none⟩) (v := .int .i64 (i + 1 : Nat)) (by simp; omega))
    have u1 : Upd (· = Bs) w (w.setCell ⟨Bs, 0, none⟩ (.int .i64 (i + 1 : Nat))) := updC _ _ _ _
    rw [show ((i + 1 : Nat) : Int) = (i : Int) + 1 by omega] at k1 k2 k3 u1
    obtain ⟨w1, hw1⟩ : ∃ w1, w.setCell ⟨Bs, 0, none⟩ (.int .i64 ((i : Int) + 1)) = w1 := ⟨_, rfl⟩
    rw [hw1] at k1 k2 k3 u1
    have ci2 := k2.c
    have cn2 := k3.c
    have K1 := hid k1
    have U1 := hid u1
    have HM0 := hid m0
    clear k1 k2 k3 u1 m0
    cases ok with
    | false =>
      go_enter Try.func58, Try.ntmps58
      go_wp2_with fail
      refine (HN.out _).mono ?_
      rintro e w' ⟨rfl, rfl⟩
      go_wp2_with fail
      go_ret
      exact ⟨false, rfl, by rw [HMY.out]; simp, U1.out, fun h => by cases h⟩
    | true =>
      have hlt : m < n - i := by have := HM0.out; omega
      all_goals
        first | (have hl : (m : Int) < (n : Int) - (i : Int) := by omega) | (have hl : ¬ (m : Int) < (n : Int) - (i : Int) := by omega)
        have HLT := hid hlt
        clear hlt
        go_enter Try.func58, Try.ntmps58
        go_wp2_with fail
        refine (HN.out _).mono ?_
        rintro e w' ⟨rfl, rfl⟩
        go_wp2_with fail
        go_ret
        refine ⟨_, rfl, ?_, U1.out, fun _ => ?_⟩
        all_goals first
          | exact K1.out
          | (rw [if_pos HM0.out]; exact K1.out)
          | (have h1 := HMY.out; have h2 := HLT.out; first | (rw [h1]; simp [h2]; done) | (rw [h1]; simp [h2]; omega) | (rw [h1]; simp; omega) | (rw [h1]; done))
  · have mb : ((m : Int) == 0) = false := by rw [beq_eq_false_iff_ne]; omega
    have HM0 := hid m0
    clear m0
    cases ok with
    | false =>
      go_enter Try.func58, Try.ntmps58
      go_wp2_with fail
      refine (HN.out _).mono ?_
      rintro e w' ⟨rfl, rfl⟩
      go_wp2_with fail
      go_ret
      exact ⟨false, rfl, by rw [HMY.out]; simp, Upd.refl _ _, fun h => by cases h⟩
    | true =>
      by_cases hlt : m < n - i
      all_goals
        first | (have hl : (m : Int) < (n : Int) - (i : Int) := by omega) | (have hl : ¬ (m : Int) < (n : Int) - (i : Int) := by omega)
        have HLT := hid hlt
        clear hlt
        go_enter Try.func58, Try.ntmps58
        go_wp2_with fail
        refine (HN.out _).mono ?_
        rintro e w' ⟨rfl, rfl⟩
        go_wp2_with fail
        go_ret
        refine ⟨_, rfl, ?_, Upd.refl _ _, fun _ => ?_⟩
        all_goals first
          | exact KS.out
          | (rw [if_neg HM0.out]; exact KS.out)
          | (have h1 := HMY.out; have h2 := HLT.out; first | (rw [h1]; simp [h2]; done) | (rw [h1]; simp [h2]; omega) | (rw [h1]; simp; omega) | (rw [h1]; done))

theorem between_small (lo hi : Int) : 0 ≤ (Span.between lo hi).1 ∧ (Span.between lo hi).1 ≤ 4294967295 ∧ 0 ≤ (Span.between lo hi).2 ∧ (Span.between lo hi).2 ≤ 4294967295 := by
  unfold Span.between
  by_cases h : min hi 4294967295 < max lo 0
  · rw [if_pos h]; decide
  · rw [if_neg h]; simp only; omega
theorem sizes_small (o1 o2 b1 b2 r : Int) : 0 ≤ (Span.sizes o1 o2 b1 b2 r).1 ∧ (Span.sizes o1 o2 b1 b2 r).1 ≤ 4294967295 ∧ 0 ≤ (Span.sizes o1 o2 b1 b2 r).2 ∧ (Span.sizes o1 o2 b1 b2 r).2 ≤ 4294967295 := by
  unfold Span.sizes
  by_cases h : 1099511627776 ≤ r
  · rw [if_pos h]
    by_cases h2 : 1099511627776 ≤ b2
    · rw [if_pos h2]; exact between_small _ _
    · rw [if_neg h2]; decide
  · rw [if_neg h]; exact between_small _ _
theorem counts_small (i1 i2 b1 b2 r : Int) : 0 ≤ (Span.counts i1 i2 b1 b2 r).1 ∧ (Span.counts i1 i2 b1 b2 r).1 ≤ 4294967295 ∧ 0 ≤ (Span.counts i1 i2 b1 b2 r).2 ∧ (Span.counts i1 i2 b1 b2 r).2 ≤ 4294967295 := by
  unfold Span.counts
  by_cases h : r < b1
  · rw [if_pos h]; decide
  · rw [if_neg h]; exact between_small _ _
theorem few1 (a b : Nat) (ha : a < 18446744073709551616) (hb : b < 18446744073709551616) : Few [(a, b)] := by
  refine ⟨by simp, fun i hi => ?_⟩
  have : i = 0 := by simp at hi; exact hi
  subst this
  exact ⟨ha, hb⟩
theorem Name1_any (Bb : Nat) (b1 b2 r : Int) (w : World) (hb : Span.right b1 b2) (h0 : 0 ≤ r) (h1 : r ≤ 1099511627776) (k0 : w.cell? ⟨Bb, 0, none⟩ = some (.int .i64 b1)) (k1 : w.cell? ⟨Bb, 1, none⟩ = some (.int .i64 b2)) :
    Wants 57 #[.pointer (some ⟨Bb, 0, none⟩)] (sizesW b1 b2) r w := by
  have HS := hid (fun w => Sizes_any 0 1099511627776 b1 b2 r w (by unfold Span.right; omega) hb h0 h1)
  have hbd := sizes_small 0 1099511627776 b1 b2 r
  obtain ⟨lo, hlo⟩ : ∃ lo : Nat, (Span.sizes 0 1099511627776 b1 b2 r).1 = lo := ⟨(Span.sizes 0 1099511627776 b1 b2 r).1.toNat, by omega⟩
  obtain ⟨hi, hhi⟩ : ∃ hi : Nat, (Span.sizes 0 1099511627776 b1 b2 r).2 = hi := ⟨(Span.sizes 0 1099511627776 b1 b2 r).2.toNat, by omega⟩
  have HW : Hid (sizesW b1 b2 r = [(lo, hi)]) := by show _ = _; unfold sizesW; rw [hlo, hhi, Int.toNat_natCast, Int.toNat_natCast]
  rw [hlo, hhi] at HS
  unfold Wants
  clear hlo hhi hbd hb
  go_enter Try.func57, Try.ntmps57
  go_wp2_with fail
  refine (HS.out _).mono ?_
  rintro e w1 ⟨rfl, hn⟩
  have HN := hid hn
  clear hn
  go_wp2_with fail
  go_ret
  refine ⟨_, rfl, ?_, ?_⟩
  · rw [HW.out]; exact RdP.one _ _ _ _
  · exact HN.out.alloc _
end Go.Proofs.Ytkfohickmdkplaa

namespace Go.Proofs.Cur
open Go.Proofs.Leb
/-- what digits are that have come out -/
theorem numO_ok {bs : List UInt8} {lim : Int} {may : List UInt8 → UInt8 → Int → Prop} : ∀ {n : Nat} {ds : List UInt8} {p : Nat} {ds' : List UInt8} {q : Nat}, numO bs lim may n ds p = .ok ds' q →
    ∃ a x, ds' = a ++ [x] ∧ x.toNat < 128 ∧ may a x (rest lim q) ∧ ds.length ≤ a.length ∧ a.length + 1 ≤ ds.length + n ∧ (Inv bs.length lim p → Inv bs.length lim q) ∧ p < q ∧ q ≤ bs.length
  | 0, _, _, _, _, h => by cases h
  | n + 1, ds, p, ds', q, h => by
    have hs : numO bs lim may (n + 1) ds p = (byteO bs lim (may ds) p).bind fun x q => if x.toNat < 128 then .ok (ds ++ [x]) q else numO bs lim may n (ds ++ [x]) q := rfl
    rw [hs] at h
    cases hb : byteO bs lim (may ds) p with
    | up q' er => rw [hb] at h; cases h
    | ok x q' =>
      rw [hb] at h
      simp only [Out.bind] at h
      unfold byteO at hb
      split at hb
      · cases hb
      · rename_i h0
        split at hb
        · rename_i h1
          split at hb
          · rename_i h2
            cases hb
            split at h
            · rename_i hx
              cases h
              exact ⟨ds, _, rfl, hx, h2, Nat.le_refl _, by omega, fun hi => hi.next h0 h1, by omega, by omega⟩
            · obtain ⟨a, y, e1, e2, e3, e4, e5, e6, e7, e8⟩ := numO_ok h
              simp only [List.length_append, List.length_cons, List.length_nil] at e4 e5
              exact ⟨a, y, e1, e2, e3, by omega, by omega, fun hi => e6 (hi.next h0 h1), by omega, e8⟩
          · cases hb
        · cases hb
theorem uintO_ok {bs : List UInt8} {lim : Int} {S : Int → Nat → Prop} {p q : Nat} {ds : List UInt8} (h : uintO bs lim S p = .ok ds q) :
    S (rest lim q) (val ds) ∧ val ds < 4294967296 ∧ (Inv bs.length lim p → Inv bs.length lim q) ∧ p < q ∧ q ≤ bs.length := by
  obtain ⟨a, x, rfl, hx, hm, -, hl, hi, h1, h2⟩ := numO_ok h
  unfold mayU comes at hm
  rw [if_pos hx] at hm
  have hlt : val (a ++ [x]) < 128 ^ (a.length + 1) := by have := val_lt (a ++ [x]); simpa using this
  have := (fits_zero hlt).1 hm
  exact ⟨this.1, this.2, hi, h1, h2⟩
end Go.Proofs.Cur
namespace Go.Proofs.Ytkfohickmdkplaa
open Go.RowKit Go.Proofs.Leb Go.Proofs.Own Go.Proofs.Cur Go.Proofs.Utf
set_option maxRecDepth 100000
set_option maxHeartbeats 4000000

theorem sub2 (T : ByteArray) (s e : Nat) : (T.extract s e).data.toList = (T.data.toList.drop s).take (e - s) := by
  simp only [ByteArray.data_extract, Array.toList_extract, List.extract_eq_take_drop]

theorem nameL_step {bs : List UInt8} {lim : Int} {k : Nat} {cur : List UInt8} {p : Nat} :
    nameL bs lim (k + 1) cur p = (byteO bs lim (mayN (k + 1) cur) p).bind fun x q => nameL bs lim k (if (need (cur ++ [x])).1 = 0 then [] else cur ++ [x]) q := rfl
theorem text_next {bs TL : List UInt8} {q m i s : Nat} {x : UInt8} (hT : (bs.drop q).take m = TL) (hs : s ≤ i) (hi : i < m) (hx : bs[q + i]? = some x) : (TL.drop s).take (i + 1 - s) = (TL.drop s).take (i - s) ++ [x] := by
  rw [show i + 1 - s = (i - s) + 1 by omega, List.take_add_one]
  congr 1
  rw [List.getElem?_drop, show s + (i - s) = i by omega, ← hT, List.getElem?_take, if_pos hi, List.getElem?_drop, hx]
  rfl
structure NInv (C : Nat) (v : Value) (bs : List UInt8) (lim : Int) (O : Out Unit) (w : World) (B Bs n q : Nat) (T : ByteArray) (i : Nat) (wr : World) : Prop where
  up : Upd (· = C) w wr
  cur : Cur wr C v bs (q + i) lim 0
  inv : Inv bs.length lim (q + i)
  le : i ≤ n
  kn : One1 wr B (.int .i64 n)
  kt : One1 wr (B + 1) (.string T)
  st : ∃ s, s ≤ i ∧ One1 wr Bs (.int .i64 s) ∧ nameL bs lim (n - i) ((T.data.toList.drop s).take (i - s)) (q + i) = O

theorem Name_any {w : World} {C : Nat} {v : Value} {bs : List UInt8} {p : Nat} {lim : Int} (h : Cur w C v bs p lim 0) (hi : Inv bs.length lim p) (b1 b2 : Int) (hb : Span.right b1 b2) :
    Calls Try.prog 26 #[.pointer (some ⟨C, 0, none⟩), .agg #[.int .i64 b1, .int .i64 b2]] w (Got C v bs lim strV (nameO bs lim b1 b2 p) w) := by
  have HI := hid hi
  have H0 := hid h
  have hC := h.lt
  obtain ⟨O, hO⟩ : ∃ O, nameO bs lim b1 b2 p = O := ⟨_, rfl⟩
  have HO := hid hO
  rw [hO]
  have hb0 : Blk (w.alloc (.cells #[.int .i64 b1, .int .i64 b2] 68)) w.heap.size (.int .i64 b1) (.int .i64 b2) 68 := Blk.mk
  have hn0 : New w (w.alloc (.cells #[.int .i64 b1, .int .i64 b2] 68)) := (Upd.refl _ _).alloc _
  have hU := Uint_any (h.new hn0) hi 57 #[.pointer (some ⟨w.heap.size, 0, none⟩)] (fun _ _ => rfl) (sizesW b1 b2)
    (fun r' w1 hu h0 h1 => Name1_any w.heap.size b1 b2 r' w1 hb h0 h1 (hu.cell hb0.c0 (by simp; omega)) (hu.cell hb0.c1 (by simp; omega)))
    (fun r => few1 _ _ (by have := sizes_small 0 1099511627776 b1 b2 r; omega) (by have := sizes_small 0 1099511627776 b1 b2 r; omega))
  have HU := hid hU
  have HN0 := hid hn0
  have hmf : ∀ (fn : Fn) (first cap : Array Value) (w : World), (Instr.makeFunc fn first cap).run Try.prog w = .ok (.func fn first cap) w := fun _ _ _ _ => rfl
  clear hi h hO hU hb0 hn0
  go_enter Try.func26, Try.ntmps26
  go_wp2_with fail
  refine HU.out.mono ?_
  rintro e w1 ⟨hu1, hm1⟩
  have U1 := hid (new_upd HN0.out hu1 hC)
  cases ho : uintO bs lim (inW (sizesW b1 b2)) p with
  | up q er =>
    rw [ho] at hm1
    obtain ⟨rfl, hc1⟩ := hm1
    have HO1 : Hid (O = .up q er) := by show _ = _; rw [← HO.out]; unfold nameO; rw [ho]; rfl
    have C1 := hid hc1
    clear ho hc1 hu1
    go_wp2_with fail
    exact ⟨rfl, Got.mk_up HO1.out U1.out rfl C1.out⟩
  | ok ds q =>
    rw [ho] at hm1
    obtain ⟨rfl, hc1⟩ := hm1
    obtain ⟨-, hlt, hiq, -, -⟩ := uintO_ok ho
    have hiq := hiq HI.out
    obtain ⟨n, hn⟩ : ∃ n, val ds = n := ⟨_, rfl⟩
    rw [hn] at hlt
    obtain ⟨L, hL⟩ : ∃ L, nameL bs lim n [] q = L := ⟨_, rfl⟩
    have HO1 : Hid (O = L.bind fun _ q' => .ok ((bs.drop q).take n) q') := by
      show _ = _; rw [← HO.out]; unfold nameO; rw [ho]; simp only [Out.bind]; rw [hn, hL]
    have HV : UintV ds = .int .u32 n := by unfold UintV; rw [hn, Nat.mod_eq_of_lt hlt]
    rw [HV]
    have HLT := hid hlt
    have HIQ := hid hiq
    have HL := hid hL
    have C1 := hid hc1
    clear ho hc1 hu1 hiq hn hL HV
    obtain ⟨av, cv, rfl⟩ := H0.out.rd.shape
    go_wp2_with fail
    obtain ⟨m, hm⟩ : ∃ m, min n (bs.length - q) = m := ⟨_, rfl⟩
    obtain ⟨qn, hqn⟩ : ∃ qn, q + n = qn := ⟨_, rfl⟩
    obtain ⟨M, hM⟩ : ∃ M, q + m = M := ⟨_, rfl⟩
    have hql := HIQ.out.place
    have hbl := HIQ.out.len
    obtain ⟨v', hs, hrd, -⟩ := slice_rd C1.out.rd q m (by omega)
    rw [hM] at hs
    obtain ⟨T, hT⟩ : ∃ T : List UInt8, (bs.drop q).take m = T := ⟨_, rfl⟩
    rw [hT] at hrd
    have hn2 : New w1 (w1.alloc (.cells #[.int .i64 n] 3)) := (Upd.refl _ _).alloc _
    have k2 : One1 (w1.alloc (.cells #[.int .i64 n] 3)) w1.heap.size (.int .i64 n) := .mk rfl
    have C2 := hid (C1.out.new hn2)
    have hr2 := hrd.new hn2
    have U2 := hid (U1.out.thenNew hn2)
    obtain ⟨B, hB⟩ : ∃ B, w1.heap.size = B := ⟨_, rfl⟩
    have hBw : w.heap.size ≤ B := by have := U1.out.size; omega
    have hCB : C < B := by omega
    have hz2 : (w1.alloc (.cells #[.int .i64 n] 3)).heap.size = B + 1 := by simp [hB]
    rw [hB] at k2
    rw [hB]
    generalize w1.alloc (.cells #[.int .i64 n] 3) = w2 at *
    have K2 := hid k2
    have HS := hid hs
    have HRD := hid hr2
    have HTT := hid hT
    have HMM := hid hm
    have HM2 := hid hM
    have HZ2 := hid hz2
    have e26 : IntKind.i64.wrap ((q : Int) + (n : Int)) = (qn : Int) := by rw [IntWalk.i64_in _ (by omega)]; omega
    have e32 : (if bs.length < qn then (bs.length : Int) else (qn : Int)) = (M : Int) := by split <;> omega
    have E26 := hid e26
    have E32 := hid e32
    clear hn2 k2 hr2 hrd hs hT hm hM hz2 hqn e26 e32
    have hn : New w2 w2.drew := (Upd.refl _ _).drew
    go_cut [6] (fun a wx => a = .pointer (some ⟨B + 1, 0, none⟩) ∧ New w2 wx ∧ One1 wx (B + 1) (strV T))
    case first =>
      have e26 := E26.out
      have e32 := E32.out
      have hzz : w2.drew.heap.size = B + 1 := HZ2.out
      refine wp_region_noPanic ?_
      refine wp_region_held_drew (S := (New w2)) (by kernel_rfl) (by first | exact hn | exact (Upd.refl _ _).drew | exact Upd.drew (by assumption)) (fun hn => ?_)
      generalize w2.drew = wd at *
      refine wpAnyH_take (i := 0) (oi := { dst := some 13, op := Op.move (Operand.tmp 0), type := 29, pos := "cursor.go:127", after := #[], guard := none }) (v := ?v15x1) rfl (by kernel_rfl) (by kernel_rfl) (by kernel_rfl) (fun _ _ _ h => h) (Or.inl ⟨by rfl, ?y15x1⟩) hn ?r15x1
      case y15x1 => (intro wS hS; (try go_simp); (try with_reducible rfl))
      try simp only [Act.put, List.setIfInBounds_toArray, List.set_cons_zero, List.set_cons_succ]
      refine wpAnyH_take (i := 1) (oi := { dst := some 14, op := Op.nilCheck (Operand.tmp 13), type := 0, pos := "cursor.go:127", after := #[{ on := 0, ground := Ground.data }], guard := none }) (v := ?v15x2) rfl (by kernel_rfl) (by kernel_rfl) (by kernel_rfl) (fun _ _ _ h => h) (Or.inl ⟨by rfl, ?y15x2⟩) hn ?r15x2
      case y15x2 => (intro wS hS; (try go_simp); (try with_reducible rfl))
      try simp only [Act.put, List.setIfInBounds_toArray, List.set_cons_zero, List.set_cons_succ]
      refine wpAnyH_take (i := 2) (oi := { dst := some 15, op := Op.fieldAddr 54 (Operand.tmp 14) 0, type := 0, pos := "cursor.go:127", after := #[{ on := 1, ground := Ground.data }], guard := none }) (v := ?v15x3) rfl (by kernel_rfl) (by kernel_rfl) (by kernel_rfl) (fun _ _ _ h => h) (Or.inl ⟨by rfl, ?y15x3⟩) hn ?r15x3
      case y15x3 => (intro wS hS; (try go_simp); (try with_reducible rfl))
      try simp only [Act.put, List.setIfInBounds_toArray, List.set_cons_zero, List.set_cons_succ]
      refine wpAnyH_take (i := 3) (oi := { dst := some 16, op := Op.load 22 (Operand.tmp 15), type := 22, pos := "cursor.go:127", after := #[{ on := 2, ground := Ground.data }], guard := none }) (v := ?v15x4) rfl (by kernel_rfl) (by kernel_rfl) (by kernel_rfl) (fun _ _ _ h => h) (Or.inl ⟨by rfl, ?y15x4⟩) hn ?r15x4
      case y15x4 => (intro wS hS; have c := hS.cell C2.out.c0 (fun h => h); (try go_simp); (try with_reducible rfl))
      try simp only [Act.put, List.setIfInBounds_toArray, List.set_cons_zero, List.set_cons_succ]
      refine wpAnyH_take (i := 4) (oi := { dst := some 17, op := Op.move (Operand.tmp 0), type := 29, pos := "cursor.go:127", after := #[], guard := none }) (v := ?v15x5) rfl (by kernel_rfl) (by kernel_rfl) (by kernel_rfl) (fun _ _ _ h => h) (Or.inl ⟨by rfl, ?y15x5⟩) hn ?r15x5
      case y15x5 => (intro wS hS; (try go_simp); (try with_reducible rfl))
      try simp only [Act.put, List.setIfInBounds_toArray, List.set_cons_zero, List.set_cons_succ]
      refine wpAnyH_take (i := 5) (oi := { dst := some 18, op := Op.nilCheck (Operand.tmp 17), type := 0, pos := "cursor.go:127", after := #[{ on := 4, ground := Ground.data }], guard := none }) (v := ?v15x6) rfl (by kernel_rfl) (by kernel_rfl) (by kernel_rfl) (fun _ _ _ h => h) (Or.inl ⟨by rfl, ?y15x6⟩) hn ?r15x6
      case y15x6 => (intro wS hS; (try go_simp); (try with_reducible rfl))
      try simp only [Act.put, List.setIfInBounds_toArray, List.set_cons_zero, List.set_cons_succ]
      refine wpAnyH_take (i := 6) (oi := { dst := some 19, op := Op.fieldAddr 54 (Operand.tmp 18) 1, type := 0, pos := "cursor.go:127", after := #[{ on := 5, ground := Ground.data }], guard := none }) (v := ?v15x7) rfl (by kernel_rfl) (by kernel_rfl) (by kernel_rfl) (fun _ _ _ h => h) (Or.inl ⟨by rfl, ?y15x7⟩) hn ?r15x7
      case y15x7 => (intro wS hS; (try go_simp); (try with_reducible rfl))
      try simp only [Act.put, List.setIfInBounds_toArray, List.set_cons_zero, List.set_cons_succ]
      refine wpAnyH_take (i := 7) (oi := { dst := some 20, op := Op.load 3 (Operand.tmp 19), type := 3, pos := "cursor.go:127", after := #[{ on := 6, ground := Ground.data }], guard := none }) (v := ?v15x8) rfl (by kernel_rfl) (by kernel_rfl) (by kernel_rfl) (fun _ _ _ h => h) (Or.inl ⟨by rfl, ?y15x8⟩) hn ?r15x8
      case y15x8 => (intro wS hS; have c := hS.cell C2.out.c1 (fun h => h); (try go_simp); (try with_reducible rfl))
      try simp only [Act.put, List.setIfInBounds_toArray, List.set_cons_zero, List.set_cons_succ]
      refine wpAnyH_take (i := 8) (oi := { dst := some 21, op := Op.move (Operand.tmp 0), type := 29, pos := "cursor.go:127", after := #[], guard := none }) (v := ?v15x9) rfl (by kernel_rfl) (by kernel_rfl) (by kernel_rfl) (fun _ _ _ h => h) (Or.inl ⟨by rfl, ?y15x9⟩) hn ?r15x9
      case y15x9 => (intro wS hS; (try go_simp); (try with_reducible rfl))
      try simp only [Act.put, List.setIfInBounds_toArray, List.set_cons_zero, List.set_cons_succ]
      refine wpAnyH_take (i := 9) (oi := { dst := some 22, op := Op.nilCheck (Operand.tmp 21), type := 0, pos := "cursor.go:127", after := #[{ on := 8, ground := Ground.data }], guard := none }) (v := ?v15x10) rfl (by kernel_rfl) (by kernel_rfl) (by kernel_rfl) (fun _ _ _ h => h) (Or.inl ⟨by rfl, ?y15x10⟩) hn ?r15x10
      case y15x10 => (intro wS hS; (try go_simp); (try with_reducible rfl))
      try simp only [Act.put, List.setIfInBounds_toArray, List.set_cons_zero, List.set_cons_succ]
      refine wpAnyH_take (i := 10) (oi := { dst := some 23, op := Op.fieldAddr 54 (Operand.tmp 22) 1, type := 0, pos := "cursor.go:127", after := #[{ on := 9, ground := Ground.data }], guard := none }) (v := ?v15x11) rfl (by kernel_rfl) (by kernel_rfl) (by kernel_rfl) (fun _ _ _ h => h) (Or.inl ⟨by rfl, ?y15x11⟩) hn ?r15x11
      case y15x11 => (intro wS hS; (try go_simp); (try with_reducible rfl))
      try simp only [Act.put, List.setIfInBounds_toArray, List.set_cons_zero, List.set_cons_succ]
      refine wpAnyH_take (i := 11) (oi := { dst := some 24, op := Op.load 3 (Operand.tmp 23), type := 3, pos := "cursor.go:127", after := #[{ on := 10, ground := Ground.data }], guard := none }) (v := ?v15x12) rfl (by kernel_rfl) (by kernel_rfl) (by kernel_rfl) (fun _ _ _ h => h) (Or.inl ⟨by rfl, ?y15x12⟩) hn ?r15x12
      case y15x12 => (intro wS hS; have c := hS.cell C2.out.c1 (fun h => h); (try go_simp); (try with_reducible rfl))
      try simp only [Act.put, List.setIfInBounds_toArray, List.set_cons_zero, List.set_cons_succ]
      refine wpAnyH_take (i := 12) (oi := { dst := some 25, op := Op.load 3 (Operand.tmp 5), type := 3, pos := "cursor.go:127", after := #[], guard := none }) (v := ?v15x13) rfl (by kernel_rfl) (by kernel_rfl) (by kernel_rfl) (fun _ _ _ h => h) (Or.inl ⟨by rfl, ?y15x13⟩) hn ?r15x13
      case y15x13 => (intro wS hS; have c := hS.cell K2.out.c (fun h => h); (try go_simp); (try with_reducible rfl))
      try simp only [Act.put, List.setIfInBounds_toArray, List.set_cons_zero, List.set_cons_succ]
      refine wpAnyH_take (i := 13) (oi := { dst := some 26, op := Op.binOp BinOp.add 3 (Operand.tmp 24) (Operand.tmp 25) 3, type := 3, pos := "cursor.go:127", after := #[{ on := 11, ground := Ground.data }, { on := 12, ground := Ground.data }], guard := none }) (v := ?v15x14) rfl (by kernel_rfl) (by kernel_rfl) (by kernel_rfl) (fun _ _ _ h => h) (Or.inl ⟨by rfl, ?y15x14⟩) hn ?r15x14
      case y15x14 => (intro wS hS; (try go_simp); (try with_reducible rfl))
      try simp only [Act.put, List.setIfInBounds_toArray, List.set_cons_zero, List.set_cons_succ]
      refine wpAnyH_take (i := 14) (oi := { dst := some 27, op := Op.move (Operand.tmp 0), type := 29, pos := "cursor.go:127", after := #[], guard := none }) (v := ?v15x15) rfl (by kernel_rfl) (by kernel_rfl) (by kernel_rfl) (fun _ _ _ h => h) (Or.inl ⟨by rfl, ?y15x15⟩) hn ?r15x15
      case y15x15 => (intro wS hS; (try go_simp); (try with_reducible rfl))
      try simp only [Act.put, List.setIfInBounds_toArray, List.set_cons_zero, List.set_cons_succ]
      refine wpAnyH_take (i := 15) (oi := { dst := some 28, op := Op.nilCheck (Operand.tmp 27), type := 0, pos := "cursor.go:127", after := #[{ on := 14, ground := Ground.data }], guard := none }) (v := ?v15x16) rfl (by kernel_rfl) (by kernel_rfl) (by kernel_rfl) (fun _ _ _ h => h) (Or.inl ⟨by rfl, ?y15x16⟩) hn ?r15x16
      case y15x16 => (intro wS hS; (try go_simp); (try with_reducible rfl))
      try simp only [Act.put, List.setIfInBounds_toArray, List.set_cons_zero, List.set_cons_succ]
      refine wpAnyH_take (i := 16) (oi := { dst := some 29, op := Op.fieldAddr 54 (Operand.tmp 28) 0, type := 0, pos := "cursor.go:127", after := #[{ on := 15, ground := Ground.data }], guard := none }) (v := ?v15x17) rfl (by kernel_rfl) (by kernel_rfl) (by kernel_rfl) (fun _ _ _ h => h) (Or.inl ⟨by rfl, ?y15x17⟩) hn ?r15x17
      case y15x17 => (intro wS hS; (try go_simp); (try with_reducible rfl))
      try simp only [Act.put, List.setIfInBounds_toArray, List.set_cons_zero, List.set_cons_succ]
      refine wpAnyH_take (i := 17) (oi := { dst := some 30, op := Op.load 22 (Operand.tmp 29), type := 22, pos := "cursor.go:127", after := #[{ on := 16, ground := Ground.data }], guard := none }) (v := ?v15x18) rfl (by kernel_rfl) (by kernel_rfl) (by kernel_rfl) (fun _ _ _ h => h) (Or.inl ⟨by rfl, ?y15x18⟩) hn ?r15x18
      case y15x18 => (intro wS hS; have c := hS.cell C2.out.c0 (fun h => h); (try go_simp); (try with_reducible rfl))
      try simp only [Act.put, List.setIfInBounds_toArray, List.set_cons_zero, List.set_cons_succ]
      refine wpAnyH_take (i := 18) (oi := { dst := some 31, op := Op.call { callee := Callee.builtin Builtin.len, args := #[Operand.tmp 30], argTypes := #[22] }, type := 3, pos := "cursor.go:127", after := #[{ on := 17, ground := Ground.data }], guard := none }) (v := ?v15x19) rfl (by kernel_rfl) (by kernel_rfl) (by kernel_rfl) (fun _ _ _ h => h) (Or.inl ⟨by rfl, ?y15x19⟩) hn ?r15x19
      case y15x19 => (intro wS hS; (try go_simp); (try with_reducible rfl))
      try simp only [Act.put, List.setIfInBounds_toArray, List.set_cons_zero, List.set_cons_succ]
      refine wpAnyH_take (i := 19) (oi := { dst := some 32, op := Op.call { callee := Callee.builtin Builtin.min, args := #[Operand.tmp 26, Operand.tmp 31], argTypes := #[3, 3] }, type := 3, pos := "cursor.go:127", after := #[{ on := 13, ground := Ground.data }, { on := 18, ground := Ground.data }], guard := none }) (v := ?v15x20) rfl (by kernel_rfl) (by kernel_rfl) (by kernel_rfl) (fun _ _ _ h => h) (Or.inl ⟨by rfl, ?y15x20⟩) hn ?r15x20
      case y15x20 => (intro wS hS; (try go_simp); (try with_reducible rfl))
      try simp only [Act.put, List.setIfInBounds_toArray, List.set_cons_zero, List.set_cons_succ]
      refine wpAnyH_take (i := 20) (oi := { dst := some 33, op := Op.slice 22 (Operand.tmp 16) (some (Operand.tmp 20)) (some (Operand.tmp 32)) none, type := 22, pos := "cursor.go:127", after := #[{ on := 3, ground := Ground.data }, { on := 7, ground := Ground.data }, { on := 19, ground := Ground.data }], guard := none }) (v := ?v15x21) rfl (by kernel_rfl) (by kernel_rfl) (by kernel_rfl) (fun _ _ _ h => h) (Or.inl ⟨by rfl, ?y15x21⟩) hn ?r15x21
      case y15x21 => (intro wS hS; rw [exec_slice (v := .slice av bs.length cv) (l := .int .i64 q) (h := .int .i64 M) rfl rfl rfl rfl (HS.out _)]; (try go_simp); (try with_reducible rfl))
      try simp only [Act.put, List.setIfInBounds_toArray, List.set_cons_zero, List.set_cons_succ]
      refine wpAnyH_take (i := 21) (oi := { dst := some 34, op := Op.convert 22 9 (Operand.tmp 33), type := 9, pos := "cursor.go:127", after := #[{ on := 20, ground := Ground.data }], guard := none }) (v := ?v15x22) rfl (by kernel_rfl) (by kernel_rfl) (by kernel_rfl) (fun _ _ _ h => h) (Or.inl ⟨by rfl, ?y15x22⟩) hn ?r15x22
      case y15x22 => (intro wS hS; rw [exec_conv (v := v') rfl rfl (HRD.out.new hS).str]; (try go_simp); (try with_reducible rfl))
      try simp only [Act.put, List.setIfInBounds_toArray, List.set_cons_zero, List.set_cons_succ]
      refine wpAnyH_ready (rs := [22]) (by kernel_rfl) (by simp) ?_
      refine AllReadyH.cons (o := { dst := some 6, op := Op.alloc 9, type := 0, pos := "cursor.go:127", after := #[], guard := none }) rfl (fun K hK => ?_) AllReadyH.nil
      go_simp
      refine alloc1Step hn ?_
      intro W2 hu hn hz8
      rw [hzz] at hz8
      refine hK.out _ _ (by first | exact hn | exact Upd.alloc hn _) (fun hn => ?_)
      clear hK K
      try simp only [Act.put, List.setIfInBounds_toArray, List.set_cons_zero, List.set_cons_succ]
      refine wpAnyH_ready (rs := [23]) (by kernel_rfl) (by simp) ?_
      refine AllReadyH.cons (o := { dst := none, op := Op.store 9 (Operand.tmp 6) (Operand.tmp 34), type := 0, pos := "cursor.go:127", after := #[{ on := 22, ground := Ground.data }, { on := 21, ground := Ground.data }, { on := 0, ground := Ground.phase }, { on := 1, ground := Ground.phase }, { on := 2, ground := Ground.phase }, { on := 3, ground := Ground.phase }, { on := 4, ground := Ground.phase }, { on := 5, ground := Ground.phase }, { on := 6, ground := Ground.phase }, { on := 7, ground := Ground.phase }, { on := 8, ground := Ground.phase }, { on := 9, ground := Ground.phase }, { on := 10, ground := Ground.phase }, { on := 11, ground := Ground.phase }, { on := 12, ground := Ground.phase }, { on := 13, ground := Ground.phase }, { on := 14, ground := Ground.phase }, { on := 15, ground := Ground.phase }, { on := 16, ground := Ground.phase }, { on := 17, ground := Ground.phase }, { on := 18, ground := Ground.phase }, { on := 19, ground := Ground.phase }, { on := 20, ground := Ground.phase }, { on := 21, ground := Ground.phase }, { on := 22, ground := Ground.phase }], guard := none }) rfl (fun K hK => ?_) AllReadyH.nil
      have z0 := hz8.c
      have f0 := hz8.f
      have hf8 : w2.heap.size ≤ B + 1 := by have := HZ2.out; omega
      go_simp
      refine store1Step hn hz8 hf8 ?_
      clear z0 f0
      intro W3 hn hz8' hO
      clear hO hz8
      have hz8 := hz8'
      refine hK.out _ _ (by first | exact hn | exact Upd.alloc hn _) (fun hn => ?_)
      clear hK K
      try simp only [Act.put, List.setIfInBounds_toArray, List.set_cons_zero, List.set_cons_succ]
      refine wpAnyH_done (by kernel_rfl) ?_ _
      refine NoPanic.normal ?_
      go_wp2_with fail
      go_meet
      exact ⟨rfl, hn, hz8⟩
    case rest =>
      obtain ⟨rfl, hn3, k3⟩ := hcut
      obtain ⟨w3, rfl⟩ : ∃ w3, w3 = wc := ⟨_, rfl⟩
      have kn3 := K2.out.new hn3
      have c3 := C2.out.new hn3
      have u3 := U2.out.thenNew hn3
      have zn3 := kn3.c
      have hsz3 : B + 2 ≤ w3.heap.size := k3.lt
      have TS : Hid (((⟨T.toArray⟩ : ByteArray)).data.toList = T) := hid (by simp)
      have TZ : Hid ((⟨T.toArray⟩ : ByteArray).size = m) := by
        show _ = _
        have h1 : (⟨T.toArray⟩ : ByteArray).size = T.length := by simp [ByteArray.size]
        rw [h1, ← HTT.out]
        simp
        have := HMM.out
        omega
      unfold strV at k3
      generalize (⟨T.toArray⟩ : ByteArray) = TB at *
      have KN3 := hid kn3
      have KT3 := hid k3
      have C3 := hid c3
      have U3 := hid u3
      clear hn3 kn3 c3 u3 k3 hn
      have kn4 := (KN3.out.push (.cells #[.int .i64 0] 3)).c
      go_wp2_with fail
      have i0 : NInv C (.slice av bs.length cv) bs lim L w B w3.heap.size n q TB 0 (w3.alloc (.cells #[.int .i64 0] 3)) :=
        ⟨U3.out.alloc _, C3.out.new ((Upd.refl _ _).alloc _), HIQ.out, Nat.zero_le _, KN3.out.push _, KT3.out.push _, 0, Nat.le_refl _, .mk rfl, by simpa using HL.out⟩
      have hsz4 : w3.heap.size < (w3.alloc (.cells #[.int .i64 0] 3)).heap.size := by simp
      generalize w3.alloc (.cells #[.int .i64 0] 3) = w4 at *
      generalize w3.heap.size = Bs at *
      have I0 := hid i0
      clear i0 kn4 zn3
      go_loopg [8, 36] n (fun k _ a wr => ∃ i : Nat, k = n - i ∧ a = .int .i64 i ∧ NInv C (.slice av bs.length cv) bs lim L w B Bs n q TB i wr)
      case atStart => exact ⟨0, by simp, rfl, I0.out⟩
      case round =>
        obtain ⟨i, rfl, rfl, hinv⟩ := hrel
        have IR := hid hinv
        clear hinv I0
        have hCs : C ≠ Bs := by omega
        have hBs : w.heap.size ≤ Bs := by omega
        by_cases hlt : i < n
        · obtain ⟨s, hsi, ks, hnm⟩ := IR.out.st
          obtain ⟨k, hk⟩ : ∃ k, n - i = k + 1 := ⟨n - i - 1, by omega⟩
          obtain ⟨cur, hcur⟩ : ∃ cur, (TB.data.toList.drop s).take (i - s) = cur := ⟨_, rfl⟩
          rw [hk, hcur, nameL_step] at hnm
          have HNM := hid hnm
          have HKK := hid hk
          have HCUR := hid hcur
          have hni : New wr (wr.alloc (.cells #[.int .i64 i] 3)) := (Upd.refl _ _).alloc _
          have ki : One1 (wr.alloc (.cells #[.int .i64 i] 3)) wr.heap.size (.int .i64 i) := .mk rfl
          have hgb : B < wr.heap.size := IR.out.kn.lt
          have hgs : Bs < wr.heap.size := ks.lt
          have HB := hid (Byte_anyK (IR.out.cur.new hni) IR.out.inv 58 #[.pointer (some ⟨B + 1, 0, none⟩), .pointer (some ⟨Bs, 0, none⟩), .pointer (some ⟨wr.heap.size, 0, none⟩), .pointer (some ⟨B, 0, none⟩)] (fun _ _ => rfl)
            (mayN (k + 1) cur) (· = Bs) ⟨hCs, fun hne kk hk2 hk3 => by have := H0.out.rd.there hne _ hk2; omega⟩
            (fun w' => ∀ x, bs[q + i]? = some x → One1 w' Bs (.int .i64 (if (need (cur ++ [x])).1 = 0 then i + 1 else s : Nat)))
            (fun hp w1 hu hc r0 r1 => by
              have hx : bs[q + i]? = some bs[q + i] := List.getElem?_eq_getElem hp
              have him : i < m := by have := HMM.out; omega
              have hTL : (bs.drop q).take m = TB.data.toList := HTT.out.trans TS.out.symm
              have hext : (TB.extract s (i + 1)).data.toList = cur ++ [bs[q + i]] := by rw [sub2, text_next hTL hsi him hx, HCUR.out]
              refine (Name2_any bs[q + i] (rest lim (q + i + 1)) (B + 1) Bs wr.heap.size B TB s i n cur w1 hext hsi (by rw [TZ.out]; exact him) hlt HLT.out ((IR.out.kt.new hni).upd hu (by omega)).c ((ks.new hni).upd hu (by omega)) (ki.upd hu (by omega))
                ((IR.out.kn.new hni).upd hu (by omega)) (by omega) (by omega)).mono ?_
              rintro e w' ⟨b, he, hb, hu', hk'⟩
              rw [HKK.out] at hb
              refine ⟨b, he, hb, hu', fun hbt x hx' => ?_⟩
              rw [hx] at hx'
              cases hx'
              exact hk' hbt))
          have UI := hid (IR.out.up.thenNew hni)
          have KNI := hid (IR.out.kn.new hni)
          have KTI := hid (IR.out.kt.new hni)
          clear hnm hk hcur hni ki ks
          go_wp2_with fail
          refine HB.out.mono ?_
          rintro e w5 ⟨hu5, hm5⟩
          have U5 : Hid (Upd (· = C) w w5) := UI.out.trans hu5 (T := fun k => k = C ∨ k = Bs) (fun k hk hh => by
            rcases hh with hh | hh
            · exact hh
            · omega)
          have kn5 := hid (KNI.out.upd hu5 (by omega))
          have kt5 := hid (KTI.out.upd hu5 (by omega))
          cases ho : byteO bs lim (mayN (k + 1) cur) (q + i) with
          | up q' er =>
            rw [ho] at hm5
            obtain ⟨rfl, hc5⟩ := hm5
            have HO4 : Hid (O = .up q' er) := by
              show _ = _
              have := HNM.out
              rw [ho] at this
              rw [HO1.out, ← this]; rfl
            have HC5 := hid hc5
            clear ho hc5 hu5
            go_wp2_with fail
            exact ⟨rfl, Got.mk_up HO4.out U5.out rfl HC5.out⟩
          | ok x q' =>
            rw [ho] at hm5
            obtain ⟨rfl, hc5, hk5⟩ := hm5
            have hbo := byteO_ok ho
            have hbi := byteO_inv IR.out.inv ho
            have hnm := HNM.out
            rw [ho] at hnm
            simp only [Out.bind] at hnm
            obtain ⟨rfl, hpl, -, hx, -⟩ := hbo
            have k5 := hk5 x hx
            have HNM2 := hid hnm
            have HC5 := hid hc5
            have HBI := hid hbi
            have K5 := hid k5
            have HX := hid hx
            clear ho hc5 hu5 hnm hbi k5 hk5 hx
            go_wp2_with fail
            go_roundg (n - (i + 1))
            case measure => omega
            case rel =>
              refine ⟨i + 1, rfl, by go_num, U5.out, HC5.out, HBI.out, hlt, kn5.out, kt5.out, _, ?_, K5.out, ?_⟩
              · split <;> omega
              · rw [show n - (i + 1) = k by have := HKK.out; omega, show q + (i + 1) = q + i + 1 by omega]
                have him : i < m := by have := HMM.out; omega
                have hTL : (bs.drop q).take m = TB.data.toList := HTT.out.trans TS.out.symm
                have htn := text_next hTL hsi him HX.out
                rw [HCUR.out] at htn
                rw [← HNM2.out]
                by_cases hz : (need (cur ++ [x])).1 = 0
                · rw [if_pos hz, if_pos hz, Nat.sub_self]; rfl
                · rw [if_neg hz, if_neg hz, htn]
        · obtain rfl : i = n := by have := IR.out.le; omega
          obtain ⟨s, hsi, ks, hnm⟩ := IR.out.st
          rw [Nat.sub_self] at hnm
          have HLK : Hid (L = .ok () (q + i)) := by show _ = _; rw [← hnm]; rfl
          have HO5 : Hid (O = .ok T (q + i)) := by
            show _ = _
            have := IR.out.cur
            have h1 := IR.out.inv.place
            rw [HO1.out, HLK.out]
            simp only [Out.bind]
            rw [← HTT.out, show m = i by have := HMM.out; omega]
          have kt := IR.out.kt.c
          clear hnm ks
          go_wp2_with fail
          go_ret
          refine Got.mk_ok HO5.out IR.out.up ?_ IR.out.cur
          unfold strV
          have := TS.out
          rw [← this]
          rfl
end Go.Proofs.Ytkfohickmdkplaa
