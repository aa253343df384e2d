/-
  The document's reader: a number with a sign.
-/
import Derived.Test.YtkfohickmdkplaaJ5
import Derived.Test.YtkfohickmdkplaaJ6
import Derived.Test.YtkfohickmdkplaaJ4
import Derived.Deep.CutBlock
import Derived.Lib.Builder
namespace Go.Proofs.Ytkfohickmdkplaa
open Go.RowKit Go.Proofs.Leb Go.Proofs.Own Go.Proofs.Cur
set_option maxRecDepth 100000
set_option maxHeartbeats 4000000

/-- still fine, or given up at q1 -/
def RS (w : World) (R : Nat) (B : ByteArray) (q : Nat) (lim : Int) (q1 : Nat) (b : Bool) : Prop := Rdr w R B q lim (if b then 0 else 2) (if b then 0 else q1)
def NeedP (w : World) (R : Nat) (B : ByteArray) (q : Nat) (lim : Int) (q1 : Nat) (b : Bool) (e : Ending) (w' : World) : Prop := e = .returned (.tuple #[]) ∧ RS w' R B q lim q1 b ∧ Upd (· = R) w w'
theorem rNeed_RS {w : World} {R : Nat} {B : ByteArray} {q : Nat} {lim : Int} {q1 : Nat} {b : Bool} (h : RS w R B q lim q1 b) (c : Bool) :
    Calls Try.prog 31 #[.pointer (some ⟨R, 0, none⟩), .bool c, .int .i64 q1] w (NeedP w R B q lim q1 (b && c)) := by
  cases b with
  | true =>
    refine (rNeed_any' h c q1).mono ?_
    rintro e w' ⟨he, h1, h2⟩
    exact ⟨he, by cases c <;> exact h1, h2⟩
  | false =>
    refine (rNeed_gone h (by decide) c q1).mono ?_
    rintro e w' ⟨he, rfl⟩
    exact ⟨he, h, Upd.refl _ _⟩

theorem RS.new {w w' : World} {R : Nat} {B : ByteArray} {q : Nat} {lim : Int} {q1 : Nat} {b : Bool} (h : RS w R B q lim q1 b) (hn : New w w') : RS w' R B q lim q1 b := Rdr.new h hn
theorem RS.c1 {w : World} {R : Nat} {B : ByteArray} {q : Nat} {lim : Int} {q1 : Nat} {b : Bool} (h : RS w R B q lim q1 b) : w.cell? ⟨R, 1, none⟩ = some (.int .i64 q) := Rdr.c1 h

/-- a digit of a number with a sign, as the document asks -/
theorem sopen_iff (mn mx : Int) {lim : Int} {q : Nat} (hq : lim = -1 ∨ (0 ≤ rest lim q ∧ rest lim q < 1099511627776)) (bits : Nat) (hbits : bits ≤ 64) (ds : List UInt8) (b : UInt8) (hb : ¬ b.toNat < 128) :
    mayS (fun r => hasR mn mx r) bits ds b (rest lim q) ↔ ∃ j, 1 ≤ j ∧ ds.length + j < (bits - 1) / 7 + 1 ∧ hasR mn mx (behD lim q j) := by
  have hneg : ∀ r, hasR mn mx r → 0 ≤ r := fun r h => by unfold hasR at h; split at h <;> omega
  unfold mayS comes
  rw [if_neg hb]
  constructor
  · rintro ⟨j, h1, h2, h3, h4, -⟩
    refine ⟨j, h1, by omega, ?_⟩
    rcases hq with rfl | hq
    · have e : behind (rest (-1) q) j = behD (-1) q j := by unfold behind behD rest; simp
      rw [← e]; exact h4
    · have hl : lim ≠ -1 := by rintro rfl; unfold rest at hq; simp at hq
      have e : behD lim q j = rest lim q - j := by unfold behD; rw [if_neg hl]
      have e2 : behind (rest lim q) j = rest lim q - j := by unfold behind; rw [if_pos hq.2]
      rw [e, ← e2]; exact h4
  · rintro ⟨j, h1, h2, h3⟩
    refine ⟨j, h1, by omega, ?_⟩
    rcases hq with rfl | hq
    · have e : behind (rest (-1) q) j = behD (-1) q j := by unfold behind behD rest; simp
      refine ⟨by unfold rest; simp; omega, by rw [e]; exact h3, .inl (by omega)⟩
    · have hl : lim ≠ -1 := by rintro rfl; unfold rest at hq; simp at hq
      have e : behD lim q j = rest lim q - j := by unfold behD; rw [if_neg hl]
      have e2 : behind (rest lim q) j = rest lim q - j := by unfold behind; rw [if_pos hq.2]
      rw [e] at h3
      exact ⟨by have := hneg _ h3; omega, by rw [e2]; exact h3, .inl (by omega)⟩
theorem sshut_iff (mn mx r : Int) (bits : Nat) (ds : List UInt8) (b : UInt8) (hb : b.toNat < 128) :
    mayS (fun r => hasR mn mx r) bits ds b r ↔ hasR mn mx r ∧ (ds.length < (bits - 1) / 7 ∨ alike b.toNat (bits - 7 * ds.length)) := by
  unfold mayS comes
  rw [if_pos hb]
  constructor
  · rintro ⟨h1, h2 | h2⟩
    · omega
    · exact ⟨h1, h2⟩
  · rintro ⟨h1, h2⟩; exact ⟨h1, .inr h2⟩
theorem alike_bits (x l : Nat) (hx : x < 128) (h1 : 1 ≤ l) (h7 : l ≤ 7) : alike x l ↔ ∀ j, l ≤ j → j < 7 → bit x j = bit x (l - 1) := by
  rw [← alike_ok, okS_bits x l hx h1 h7]

structure ZInv (R : Nat) (B : ByteArray) (lim mn mx : Int) (bits : Nat) (O : Out (List UInt8)) (w : World) (Bw : Nat) (ds : List UInt8) (v : Value) (k : Nat) (wr : World) : Prop where
  up : Upd (· = R) w wr
  bx : Blk wr Bw (.int .i64 mn) (.int .i64 mx) 44
  by' : Bytes wr v ds
  fr : ∀ g, v.ownBlock = some g → Bw < g
  st : (∃ q, Rdr wr R B q lim 0 0 ∧ Inv B.size lim q ∧ ds.length ≤ (bits - 1) / 7 ∧ k = (bits - 1) / 7 + 2 - ds.length ∧ numO B.data.toList lim (mayS (fun r => hasR mn mx r) bits) ((bits - 1) / 7 + 1 - ds.length) ds q = O) ∨
    (∃ p' er sp, er ≠ 0 ∧ Rdr wr R B p' lim er sp ∧ O = .up sp er ∧ k = (bits - 1) / 7 + 2 - ds.length ∧ ds.length ≤ (bits - 1) / 7 + 1)

structure SZ (a : World) (R Bw q : Nat) (mn mx : Int) (w' : World) : Prop where
  up : Upd (· = R) a w'
  c1 : w'.cell? ⟨R, 1, none⟩ = some (.int .i64 q)
  bx : w'.heap[Bw]? = some (.cells #[.int .i64 mn, .int .i64 mx] 44)
theorem SZ.upd {a b c : World} {R Bw q : Nat} {mn mx : Int} (h : SZ a R Bw q mn mx b) (hu : Upd (· = R) b c) (hne : Bw ≠ R) (h1 : c.cell? ⟨R, 1, none⟩ = some (.int .i64 q)) : SZ a R Bw q mn mx c :=
  ⟨h.up.trans hu (fun _ _ h => h), h1, (hu.block _ (Array.getElem?_eq_some_iff.1 h.bx).1 hne).trans h.bx⟩
theorem SZ.new {a b c : World} {R Bw q : Nat} {mn mx : Int} (h : SZ a R Bw q mn mx b) (hn : New b c) : SZ a R Bw q mn mx c :=
  ⟨h.up.thenNew hn, hn.cell h.c1 (fun h => h), (hn.block _ (Array.getElem?_eq_some_iff.1 h.bx).1 (fun h => h)).trans h.bx⟩
theorem infoZ : (Try.prog.info? 44).map (·.size) = some 2 := by kernel_rfl
/-- the bits above a last digit are alike, up to k -/
def Same (x lw k : Nat) : Prop := ∀ j, lw ≤ j → j < k → bit x j = bit x (lw - 1)
theorem Same.step {x lw k : Nat} (h : lw ≤ k) : Same x lw (k + 1) ↔ Same x lw k ∧ bit x k = bit x (lw - 1) := by
  constructor
  · exact fun g => ⟨fun j h1 h2 => g j h1 (by omega), g k h (by omega)⟩
  · rintro ⟨g1, g2⟩ j h1 h2
    rcases Nat.lt_or_ge j k with h3 | h3
    · exact g1 j h1 h3
    · obtain rfl : j = k := by omega
      exact g2

theorem mayS9' {S : Int → Prop} {bits : Nat} {ds : List UInt8} {x : UInt8} {r : Int} (hb : bits ≤ 64) (h : mayS S bits ds x r) (hx : x.toNat < 128) (hl : ds.length = 9) (hk : ds.length ≤ (bits - 1) / 7) :
    x.toNat = 0 ∨ x.toNat = 127 := by
  unfold mayS comes at h
  rw [if_pos hx] at h
  have hbits : bits = 64 := by omega
  subst hbits
  rcases h.2 with h | h | h
  · omega
  · omega
  · rw [hl] at h
    unfold alike at h
    simp only [show 64 - 7 * 9 - 1 = 0 by decide, Nat.pow_zero, Nat.div_one] at h
    exact h
theorem sint_bd {bs : List UInt8} {lim : Int} {S : Int → Prop} {bits p q : Nat} {ds : List UInt8} (hb : bits ≤ 64) (h : sintO bs lim S bits p = .ok ds q) :
    ∃ s x, ds.length = s + 1 ∧ s ≤ 9 ∧ ds[s]? = some x ∧ x.toNat < 128 ∧ sval (ds.drop s) = top x.toNat ∧ -9223372036854775808 ≤ sval ds ∧ sval ds < 9223372036854775808 := by
  unfold sintO at h
  obtain ⟨a, x, rfl, hx, hm, -, hl, -, -, -⟩ := numO_ok h
  simp only [List.length_nil] at hl
  have h9 : a.length ≤ 9 := by omega
  have hs := sext a x hx h9 (fun h9 => by
    have h8 : (bits - 1) / 7 = 9 := by omega
    exact mayS9' hb hm hx h9 (by omega))
  obtain ⟨W, hW⟩ : ∃ W, IntKind.u64.wrap ((vm (a ++ [x]) : Int) * 2 ^ (64 - 7 * (a.length + 1))) = W := ⟨_, rfl⟩
  rw [hW] at hs
  have hw : -9223372036854775808 ≤ IntKind.i64.wrap W ∧ IntKind.i64.wrap W < 9223372036854775808 := by rw [IntKind.wrap_i64]; omega
  have hp : (0 : Int) < 2 ^ (64 - 7 * (a.length + 1)) := Int.pow_pos (by decide)
  have hgx : (a ++ [x])[a.length]'(by simp) = x := by rw [List.getElem_append_right (Nat.le_refl _)]; simp
  have hsv := sval_last (a ++ [x]) a.length (by simp) (by rw [hgx]; exact hx)
  rw [hgx] at hsv
  have hbd : -9223372036854775808 ≤ sval (a ++ [x]) ∧ sval (a ++ [x]) < 9223372036854775808 := by
    generalize (2 : Int) ^ (64 - 7 * (a.length + 1)) = P at *
    rw [← hs]
    exact ⟨(Int.le_ediv_iff_mul_le hp).2 (by omega), (Int.ediv_lt_iff_lt_mul hp).2 (by omega)⟩
  exact ⟨a.length, x, by simp, h9, by simp, hx, hsv, hbd⟩

/-- does any number of further bytes serve? -/
def OpZ (mn mx lim : Int) (q j : Nat) : Prop := ∃ z, 1 ≤ z ∧ z < j ∧ hasR mn mx (behD lim q z)

/-- behind the loop -/
def ZOut (R : Nat) (B : ByteArray) (lim : Int) (O : Out (List UInt8)) (w : World) (v : Value) (wx : World) : Prop :=
  Upd (· = R) w wx ∧ ((∃ ds q, O = .ok ds q ∧ Bytes wx v ds ∧ Rdr wx R B q lim 0 0) ∨ (∃ p' er sp, er ≠ 0 ∧ Rdr wx R B p' lim er sp ∧ O = .up sp er))

theorem rSint_any {w : World} {R : Nat} {B : ByteArray} {p : Nat} {lim : Int} (h : Rdr w R B p lim 0 0) (hi : Inv B.size lim p) (bits : Nat) (hb1 : 1 ≤ bits) (hb2 : bits ≤ 64) (mn mx : Int) (hm : 0 ≤ mn) :
    Calls Try.prog 33 #[.pointer (some ⟨R, 0, none⟩), .int .i64 bits, .agg #[.int .i64 mn, .int .i64 mx]] w (RGot R B lim SintV (sintO B.data.toList lim (fun r => hasR mn mx r) bits p) w) := by
  have HI := hid hi
  have H0 := hid h
  have hR := h.lt
  obtain ⟨O, hO⟩ : ∃ O, sintO B.data.toList lim (fun r => hasR mn mx r) bits p = O := ⟨_, rfl⟩
  have HO := hid hO
  rw [hO]
  have HL := hid (size_list B)
  have hn0 : New w (w.alloc (.cells #[.int .i64 mn, .int .i64 mx] 44)) := (Upd.refl _ _).alloc _
  have i0 : ZInv R B lim mn mx bits O w w.heap.size [] (.slice none 0 0) ((bits - 1) / 7 + 2) (w.alloc (.cells #[.int .i64 mn, .int .i64 mx] 44)) :=
    ⟨New.upd hn0, Blk.mk, Bytes.nil _, (fun g hg => by cases hg), .inl ⟨p, h.new hn0, hi, by simp, by simp, by simpa [sintO] using hO⟩⟩
  have I0 := hid i0
  have eq7 : ((bits : Int) + 6) / 7 = (((bits - 1) / 7 + 1 : Nat) : Int) := by omega
  obtain ⟨l, hl⟩ : ∃ l, (bits - 1) / 7 = l := ⟨_, rfl⟩
  have HLL := hid hl
  have hl9 : l ≤ 9 := by omega
  rw [hl] at eq7
  clear hi h hO i0 hn0 hl
  go_enter Try.func33, Try.ntmps33
  go_upto_block 0 with fail
  rw [eq7]
  clear eq7
  go_cut [8] (fun v wx => ZOut R B lim O w v wx)
  case first =>
    generalize w.alloc (.cells #[.int .i64 mn, .int .i64 mx] 44) = w1 at *
    go_wp2_with fail
    go_loopg [8, 9, 10, 11, 12, 13, 14] (l + 2) (fun k v _ _ _ _ _ _ wr => ∃ ds : List UInt8, ZInv R B lim mn mx bits O w w.heap.size ds v k wr)
    case atStart => exact ⟨[], by have := I0.out; rw [HLL.out] at this; exact this⟩
    case round =>
      obtain ⟨ds, hinv⟩ := hrel
      have IR := hid hinv
      obtain ⟨av, cv, rfl⟩ := hinv.by'.rd.shape
      clear hinv I0
      rcases IR.out.st with ⟨q1, hq, hiq, hl4, hk, hnum⟩ | ⟨p', er, sp, he, hr, ho, hk, hl5⟩
      · rw [HLL.out] at hl4 hk hnum
        obtain ⟨i, hi⟩ : ∃ i, ds.length = i := ⟨_, rfl⟩
        obtain ⟨n, hn⟩ : ∃ n, l + 1 - i = n + 1 := ⟨l - i, by omega⟩
        rw [hi] at hl4 hk hnum
        rw [hn] at hnum
        have hlt : (i : Int) < ((l + 1 : Nat) : Int) := by omega
        rw [hi]
        have HNX := hid (rNext_any hq hiq)
        have HNUM := hid hnum
        have HII := hid hi
        have HNN := hid hn
        have HIQ := hid hiq
        have HK := hid hk
        have NU := hid (numO_next (bs := B.data.toList) (lim := lim) (may := mayS (fun r => hasR mn mx r) bits) (n := n) (ds := ds) (p := q1))
        clear hnum hi hn hq hiq hk
        go_wp2_with fail
        refine HNX.out.mono ?_
        rintro e w2 ⟨hu2, hm2⟩
        have U2 := hid (IR.out.up.trans hu2 (fun _ _ h => h))
        cases ho : nextO B.data.toList lim q1 with
        | up q' er =>
          rw [ho] at hm2
          obtain ⟨a, p', rfl, hr2⟩ := hm2
          have HOU : Hid (O = .up q' er) := by show _ = _; rw [← HNUM.out]; exact NU.out.1 _ _ ho
          have hne := nextO_er ho
          have c3 := hr2.c3
          have hb : ((er : Int) != 0) = true := by rw [bne_iff_ne]; omega
          have HR2 := hid hr2
          clear ho hr2 hu2
          unfold cb
          go_wp2_with fail
          go_ret
          exact RGot.mk_up [] HOU.out U2.out rfl HR2.out
        | ok b q' =>
          rw [ho] at hm2
          obtain ⟨rfl, hr2⟩ := hm2
          have c3 := hr2.c3
          have hno := nextO_ok ho
          have NUB := hid (NU.out.2 _ _ ho)
          obtain ⟨hq2, hpl, hr0⟩ := hno
          have hiq' := HIQ.out.next hr0 (by rw [← size_list]; exact hpl)
          rw [← hq2] at hiq'
          have HQ2 := hid hq2
          have HIQ2 := hid hiq'
          have HR2 := hid hr2
          have hrl : Hid (lim = -1 ∨ (0 ≤ rest lim q' ∧ rest lim q' < 1099511627776)) := by
            have h1 := HIQ.out.lim
            have h2 := hiq'.rest
            rcases h1 with h1 | h1
            · exact .inl h1
            · refine .inr ⟨h2.1, ?_⟩
              rw [hq2]
              unfold rest
              split <;> omega
          have hbl := hiq'.len
          have hpp := hiq'.place
          have HB2 : Hid (Blk w2 w.heap.size (.int .i64 mn) (.int .i64 mx) 44) := (hu2.block _ IR.out.bx.lt (by omega)).trans IR.out.bx
          have hby := IR.out.by'.upd hu2 (fun g hg hh => by have := IR.out.fr g hg; omega)
          have hfr0 := IR.out.fr
          rw [HII.out] at hby hfr0
          have FR := hid hfr0
          clear hfr0
          have hbn := u8_lt b
          clear ho hr2 hu2 hiq' hpl hr0 hq2
          unfold cb
          go_wp2_with (at_builtin; refine hold ?_)
          refine appB (.tmp 31) (.tmp 33) b hby (by rfl) (by rw [HII.out]; omega) rfl rfl rfl rfl ?_
          intro v3 w3 hb3 ha3
          have fr3 : ∀ g, v3.ownBlock = some g → w.heap.size < g := by
            intro g hg
            rcases ha3.at' with hh | ⟨gg, h1, h2⟩
            · rw [hh] at hg; exact FR.out g hg
            · rw [h1] at hg; cases hg; have := U2.out.size; have := HB2.out.lt; omega
          have nR : ∀ k, (Value.slice av i cv).ownBlock = some k → ¬ k = R := fun k hk hkR => by have := FR.out k hk; omega
          have U3 := hid (U2.out.trans (ha3.upd.mono (T := fun k => k = R ∨ w.heap.size < k) (fun k _ hk => .inr (FR.out k hk))) (fun k hk hh => by
            rcases hh with hh | hh
            · exact hh
            · omega))
          have H3 : Hid (Rdr w3 R B q' lim 0 0) := HR2.out.upd ha3.upd (fun hh => nR R hh rfl)
          have HB3 : Hid (Blk w3 w.heap.size (.int .i64 mn) (.int .i64 mx) 44) := (ha3.upd.block _ HB2.out.lt (fun hh => by have := FR.out _ hh; omega)).trans HB2.out
          have hlen : (ds ++ [b]).length = i + 1 := by rw [List.length_append, HII.out]; rfl
          obtain ⟨a3, c3', rfl⟩ := hb3.rd.shape
          rw [hlen]
          have HBY3 := hid hb3
          have FR3 := hid fr3
          have HLEN := hid hlen
          clear hby ha3 hb3 fr3 nR hlen c3
          by_cases hb : b.toNat < 128
          · have hbi : (b.toNat : Int) < 128 := by omega
            have hw1 : 1 ≤ bits - 7 * i := by have := HLL.out; omega
            have hw7 : i < l → 8 ≤ bits - 7 * i := by have := HLL.out; omega
            have hwl : i = l → bits - 7 * i ≤ 7 := by have := HLL.out; omega
            obtain ⟨lw, hlw⟩ : ∃ lw, bits - 7 * i = lw := ⟨_, rfl⟩
            rw [hlw] at hw1 hw7 hwl
            have hlw2 : ((bits : Int) - 7 * i) = (lw : Int) := by omega
            have hlw64 : lw ≤ 64 := by omega
            have HLW := hid hlw
            have HW7 := hid hw7
            have HWL := hid hwl
            clear hlw hw7 hwl
            go_upto_block 2 with fail
            clear hlw2
            go_cut [12] (fun _ wx => Upd (· = R) w3 wx ∧ ∃ c : Bool, RS wx R B q' lim q1 c ∧ (c = true ↔ Same b.toNat lw (if i < l then lw else 7)))
            case first =>
              go_wp2_with fail
              go_loopg [12] 65 (fun k c wr => ∃ kk : Nat, c = .int .i64 kk ∧ k = 65 + lw - kk ∧ lw ≤ kk ∧ (kk ≤ 7 ∨ kk = lw) ∧ Upd (· = R) w3 wr ∧ ∃ c : Bool, RS wr R B q' lim q1 c ∧ (c = true ↔ Same b.toNat lw kk))
              case atStart => exact ⟨lw, rfl, by omega, Nat.le_refl _, .inr rfl, Upd.refl _ _, true, H3.out, by simp only [true_iff]; intro j h1 h2; omega⟩
              case round =>
                obtain ⟨kk, rfl, rfl, hk1, hk2, hu, c, hc, hcs⟩ := hrel
                have HU := hid hu
                have HC := hid hc
                have HCS := hid hcs
                clear hu hc hcs
                by_cases hk : (kk : Int) < 7
                · have hil : i = l := by rcases Nat.lt_or_ge i l with h | h; (have := HW7.out h; omega); omega
                  have hq : ((i : Int) == (l : Int)) = true := by rw [beq_iff_eq]; omega
                  have hw7 : lw ≤ 7 := HWL.out hil
                  clear hil
                  have hbit : ∀ j : Nat, ((b.toNat : Int) / 2 ^ j).tmod 2 = (bit b.toNat j : Int) := fun j => by
                    have e : ((b.toNat : Int) / 2 ^ j) = ((b.toNat / 2 ^ j : Nat) : Int) := by push_cast; rfl
                    rw [e, Int.tmod_eq_emod_of_nonneg (Int.natCast_nonneg _)]
                    unfold bit
                    rw [Int.natCast_emod]; rfl
                  obtain ⟨lm, hlm⟩ : ∃ lm, lw - 1 = lm := ⟨_, rfl⟩
                  have e63 : IntKind.i64.wrap ((lw : Int) - 1) = (lm : Int) := by rw [IntWalk.i64_in _ (by omega)]; omega
                  have hlm6 : lm ≤ 6 := by omega
                  have HLM := hid hlm
                  clear hlm
                  go_upto_region 14 with fail
                  have e70 : IntKind.i64.wrap ((q' : Int) - 1) = (q1 : Int) := by have h1 := HIQ2.out.place; have h2 := HIQ2.out.len; have h3 := HQ2.out; rw [IntWalk.i64_in _ (by omega)]; omega
                  have hnn : New wr wr.drew := (Upd.refl _ _).drew
                  have hne : w.heap.size ≠ R := by omega
                  have hn : SZ wr R w.heap.size q' mn mx wr.drew := ⟨(Upd.refl _ _).drew, HC.out.c1, ((HU.out.block _ HB3.out.lt (by omega)).trans HB3.out)⟩
                  refine wp_region_noPanic ?_
                  refine wp_region_held_drew (S := (SZ wr R w.heap.size q' mn mx)) (by kernel_rfl) (by first | exact hn | exact (Upd.refl _ _).drew | exact Upd.drew (by assumption)) (fun hn => ?_)
                  generalize wr.drew = wd at *
                  refine wpAnyH_take (i := 0) (oi := { dst := some 55, op := Op.move (Operand.tmp 0), type := 33, pos := "ref.go:197", after := #[], guard := none }) (v := ?v21x1) rfl (by kernel_rfl) (by kernel_rfl) (by kernel_rfl) (fun _ _ _ h => h) (Or.inl ⟨by rfl, ?y21x1⟩) hn ?r21x1
                  case y21x1 => (intro wS hS; (try go_simp); (try with_reducible rfl))
                  try simp only [Act.put, List.setIfInBounds_toArray, List.set_cons_zero, List.set_cons_succ]
                  refine wpAnyH_take (i := 1) (oi := { dst := some 56, op := Op.move (Operand.tmp 9), type := 5, pos := "ref.go:197", after := #[], guard := none }) (v := ?v21x2) rfl (by kernel_rfl) (by kernel_rfl) (by kernel_rfl) (fun _ _ _ h => h) (Or.inl ⟨by rfl, ?y21x2⟩) hn ?r21x2
                  case y21x2 => (intro wS hS; (try go_simp); (try with_reducible rfl))
                  try simp only [Act.put, List.setIfInBounds_toArray, List.set_cons_zero, List.set_cons_succ]
                  refine wpAnyH_take (i := 2) (oi := { dst := some 57, op := Op.move (Operand.tmp 12), type := 3, pos := "ref.go:197", after := #[], guard := none }) (v := ?v21x3) rfl (by kernel_rfl) (by kernel_rfl) (by kernel_rfl) (fun _ _ _ h => h) (Or.inl ⟨by rfl, ?y21x3⟩) hn ?r21x3
                  case y21x3 => (intro wS hS; (try go_simp); (try with_reducible rfl))
                  try simp only [Act.put, List.setIfInBounds_toArray, List.set_cons_zero, List.set_cons_succ]
                  refine wpAnyH_take (i := 3) (oi := { dst := some 58, op := Op.binOp BinOp.shr 5 (Operand.tmp 56) (Operand.tmp 57) 3, type := 5, pos := "ref.go:197", after := #[{ on := 1, ground := Ground.data }, { on := 2, ground := Ground.data }], guard := none }) (v := ?v21x4) rfl (by kernel_rfl) (by kernel_rfl) (by kernel_rfl) (fun _ _ _ h => h) (Or.inl ⟨by rfl, ?y21x4⟩) hn ?r21x4
                  case y21x4 => (intro wS hS; (try go_simp); (try with_reducible rfl))
                  try simp only [Act.put, List.setIfInBounds_toArray, List.set_cons_zero, List.set_cons_succ]
                  refine wpAnyH_take (i := 4) (oi := { dst := some 59, op := Op.binOp BinOp.rem 5 (Operand.tmp 58) (Operand.const (Value.int IntKind.u8 2)) 5, type := 5, pos := "ref.go:197", after := #[{ on := 3, ground := Ground.data }], guard := none }) (v := ?v21x5) rfl (by kernel_rfl) (by kernel_rfl) (by kernel_rfl) (fun _ _ _ h => h) (Or.inl ⟨by rfl, ?y21x5⟩) hn ?r21x5
                  case y21x5 => (intro wS hS; (try go_simp); (try with_reducible rfl))
                  try simp only [Act.put, List.setIfInBounds_toArray, List.set_cons_zero, List.set_cons_succ]
                  refine wpAnyH_take (i := 5) (oi := { dst := some 60, op := Op.move (Operand.tmp 9), type := 5, pos := "ref.go:197", after := #[], guard := none }) (v := ?v21x6) rfl (by kernel_rfl) (by kernel_rfl) (by kernel_rfl) (fun _ _ _ h => h) (Or.inl ⟨by rfl, ?y21x6⟩) hn ?r21x6
                  case y21x6 => (intro wS hS; (try go_simp); (try with_reducible rfl))
                  try simp only [Act.put, List.setIfInBounds_toArray, List.set_cons_zero, List.set_cons_succ]
                  refine wpAnyH_take (i := 6) (oi := { dst := some 61, op := Op.move (Operand.tmp 11), type := 3, pos := "ref.go:197", after := #[], guard := none }) (v := ?v21x7) rfl (by kernel_rfl) (by kernel_rfl) (by kernel_rfl) (fun _ _ _ h => h) (Or.inl ⟨by rfl, ?y21x7⟩) hn ?r21x7
                  case y21x7 => (intro wS hS; (try go_simp); (try with_reducible rfl))
                  try simp only [Act.put, List.setIfInBounds_toArray, List.set_cons_zero, List.set_cons_succ]
                  refine wpAnyH_take (i := 7) (oi := { dst := some 62, op := Op.binOp BinOp.sub 3 (Operand.tmp 61) (Operand.const (Value.int IntKind.i64 1)) 3, type := 3, pos := "ref.go:197", after := #[{ on := 6, ground := Ground.data }], guard := none }) (v := ?v21x8) rfl (by kernel_rfl) (by kernel_rfl) (by kernel_rfl) (fun _ _ _ h => h) (Or.inl ⟨by rfl, ?y21x8⟩) hn ?r21x8
                  case y21x8 => (intro wS hS; (try go_simp); (try with_reducible rfl))
                  try simp only [Act.put, List.setIfInBounds_toArray, List.set_cons_zero, List.set_cons_succ]
                  refine wpAnyH_take (i := 8) (oi := { dst := some 63, op := Op.binOp BinOp.shr 5 (Operand.tmp 60) (Operand.tmp 62) 3, type := 5, pos := "ref.go:197", after := #[{ on := 5, ground := Ground.data }, { on := 7, ground := Ground.data }], guard := none }) (v := ?v21x9) rfl (by kernel_rfl) (by kernel_rfl) (by kernel_rfl) (fun _ _ _ h => h) (Or.inl ⟨by rfl, ?y21x9⟩) hn ?r21x9
                  case y21x9 => (intro wS hS; (try go_simp); (try with_reducible rfl))
                  try simp only [Act.put, List.setIfInBounds_toArray, List.set_cons_zero, List.set_cons_succ]
                  refine wpAnyH_take (i := 9) (oi := { dst := some 64, op := Op.binOp BinOp.rem 5 (Operand.tmp 63) (Operand.const (Value.int IntKind.u8 2)) 5, type := 5, pos := "ref.go:197", after := #[{ on := 8, ground := Ground.data }], guard := none }) (v := ?v21x10) rfl (by kernel_rfl) (by kernel_rfl) (by kernel_rfl) (fun _ _ _ h => h) (Or.inl ⟨by rfl, ?y21x10⟩) hn ?r21x10
                  case y21x10 => (intro wS hS; (try go_simp); (try with_reducible rfl))
                  try simp only [Act.put, List.setIfInBounds_toArray, List.set_cons_zero, List.set_cons_succ]
                  refine wpAnyH_take (i := 10) (oi := { dst := some 65, op := Op.binOp BinOp.eql 5 (Operand.tmp 59) (Operand.tmp 64) 5, type := 4, pos := "ref.go:197", after := #[{ on := 4, ground := Ground.data }, { on := 9, ground := Ground.data }], guard := none }) (v := ?v21x11) rfl (by kernel_rfl) (by kernel_rfl) (by kernel_rfl) (fun _ _ _ h => h) (Or.inl ⟨by rfl, ?y21x11⟩) hn ?r21x11
                  case y21x11 => (intro wS hS; (try go_simp); (try with_reducible rfl))
                  try simp only [Act.put, List.setIfInBounds_toArray, List.set_cons_zero, List.set_cons_succ]
                  refine wpAnyH_take (i := 11) (oi := { dst := some 66, op := Op.move (Operand.tmp 0), type := 33, pos := "ref.go:197", after := #[], guard := none }) (v := ?v21x12) rfl (by kernel_rfl) (by kernel_rfl) (by kernel_rfl) (fun _ _ _ h => h) (Or.inl ⟨by rfl, ?y21x12⟩) hn ?r21x12
                  case y21x12 => (intro wS hS; (try go_simp); (try with_reducible rfl))
                  try simp only [Act.put, List.setIfInBounds_toArray, List.set_cons_zero, List.set_cons_succ]
                  refine wpAnyH_take (i := 12) (oi := { dst := some 67, op := Op.nilCheck (Operand.tmp 66), type := 0, pos := "ref.go:197", after := #[{ on := 11, ground := Ground.data }], guard := none }) (v := ?v21x13) rfl (by kernel_rfl) (by kernel_rfl) (by kernel_rfl) (fun _ _ _ h => h) (Or.inl ⟨by rfl, ?y21x13⟩) hn ?r21x13
                  case y21x13 => (intro wS hS; (try go_simp); (try with_reducible rfl))
                  try simp only [Act.put, List.setIfInBounds_toArray, List.set_cons_zero, List.set_cons_succ]
                  refine wpAnyH_take (i := 13) (oi := { dst := some 68, op := Op.fieldAddr 37 (Operand.tmp 67) 1, type := 0, pos := "ref.go:197", after := #[{ on := 12, ground := Ground.data }], guard := none }) (v := ?v21x14) rfl (by kernel_rfl) (by kernel_rfl) (by kernel_rfl) (fun _ _ _ h => h) (Or.inl ⟨by rfl, ?y21x14⟩) hn ?r21x14
                  case y21x14 => (intro wS hS; (try go_simp); (try with_reducible rfl))
                  try simp only [Act.put, List.setIfInBounds_toArray, List.set_cons_zero, List.set_cons_succ]
                  refine wpAnyH_take (i := 14) (oi := { dst := some 69, op := Op.load 3 (Operand.tmp 68), type := 3, pos := "ref.go:197", after := #[{ on := 13, ground := Ground.data }], guard := none }) (v := ?v21x15) rfl (by kernel_rfl) (by kernel_rfl) (by kernel_rfl) (fun _ _ _ h => h) (Or.inl ⟨by rfl, ?y21x15⟩) hn ?r21x15
                  case y21x15 => (intro wS hS; have c := hS.c1; (try go_simp); (try with_reducible rfl))
                  try simp only [Act.put, List.setIfInBounds_toArray, List.set_cons_zero, List.set_cons_succ]
                  refine wpAnyH_take (i := 15) (oi := { dst := some 70, op := Op.binOp BinOp.sub 3 (Operand.tmp 69) (Operand.const (Value.int IntKind.i64 1)) 3, type := 3, pos := "ref.go:197", after := #[{ on := 14, ground := Ground.data }], guard := none }) (v := ?v21x16) rfl (by kernel_rfl) (by kernel_rfl) (by kernel_rfl) (fun _ _ _ h => h) (Or.inl ⟨by rfl, ?y21x16⟩) hn ?r21x16
                  case y21x16 => (intro wS hS; (try go_simp); (try with_reducible rfl))
                  try simp only [Act.put, List.setIfInBounds_toArray, List.set_cons_zero, List.set_cons_succ]
                  refine wpAnyH_ready (rs := [16]) (by kernel_rfl) (by simp) ?_
                  refine AllReadyH.cons (o := { dst := some 71, op := Op.call { callee := Callee.value (Operand.func 31), args := #[Operand.tmp 55, Operand.tmp 65, Operand.tmp 70], argTypes := #[33, 4, 3] }, type := 0, pos := "ref.go:197", after := #[{ on := 0, ground := Ground.data }, { on := 10, ground := Ground.data }, { on := 15, ground := Ground.data }], guard := none }) rfl (fun K hK => ?_) AllReadyH.nil
                  go_simp
                  refine (rNeed_RS (HC.out.new hnn) _).mono ?_
                  rintro e wc ⟨rfl, h5, u5⟩
                  have H5 := hid h5
                  go_wp2_with fail
                  have hn := hn.upd u5 hne h5.c1
                  clear h5
                  refine hK.out _ _ (by first | exact hn | exact Upd.alloc hn _) (fun hn => ?_)
                  clear hK K
                  try simp only [Act.put, List.setIfInBounds_toArray, List.set_cons_zero, List.set_cons_succ]
                  refine wpAnyH_done (by kernel_rfl) ?_ _
                  refine NoPanic.normal ?_
                  have U5 := hid (HU.out.trans hn.up (fun _ _ h => h))
                  clear hn hnn e70 u5 e63 hbit
                  go_wp2_with fail
                  go_roundg (65 + lw - (kk + 1))
                  case measure => omega
                  case rel =>
                    refine ⟨kk + 1, by go_num, rfl, by omega, by omega, U5.out, _, H5.out, ?_⟩
                    rw [Same.step hk1, Bool.and_eq_true, HCS.out, beq_iff_eq, HLM.out]
                    exact and_congr_right fun _ => by omega
                · have hk3 : Hid (kk = if i < l then lw else 7) := by
                    show _ = _
                    split
                    · have := HW7.out (by assumption); omega
                    · have := HWL.out (by omega); omega
                  go_wp2_with fail
                  go_meet
                  exact ⟨HU.out, c, HC.out, by rw [← hk3.out]; exact HCS.out⟩
            case rest =>
              obtain ⟨hu, c, hc, hcs⟩ := hcut
              have HU := hid hu
              have HC := hid hc
              have HCS := hid hcs
              clear hu hc hcs
              have HNE := hid (show w.heap.size ≠ R by omega)
              have HB4 : Hid (Blk wc w.heap.size (.int .i64 mn) (.int .i64 mx) 44) := (HU.out.block _ HB3.out.lt (by omega)).trans HB3.out
              have HRS : Hid (∀ W, New wc W → Calls Try.prog 38 #[.pointer (some ⟨R, 0, none⟩)] W fun e w' => e = .returned (.int .i64 (rest lim q')) ∧ New W w') := fun W hW => rRest_any (Rdr.new HC.out hW) HIQ2.out
              have HHR : Hid (∀ W, Calls Try.prog 50 #[.agg #[.int .i64 mn, .int .i64 mx], .int .i64 (rest lim q')] W (Yes (hasR mn mx (rest lim q')) W)) := fun W => rHasR_any mn mx _ W hm
              have HSH : Hid (mayS (fun r => hasR mn mx r) bits ds b (rest lim q') ↔ hasR mn mx (rest lim q') ∧ (i < l ∨ alike b.toNat lw)) := by
                have := sshut_iff mn mx (rest lim q') bits ds b hb
                rw [HII.out, HLL.out, HLW.out] at this
                exact this
              generalize rest lim q' = r at *
              go_upto_region 15 with fail
              have e81 : IntKind.i64.wrap ((q' : Int) - 1) = (q1 : Int) := by have h1 := HIQ2.out.place; have h2 := HIQ2.out.len; have h3 := HQ2.out; rw [IntWalk.i64_in _ (by omega)]; omega
              have hnn : New wc wc.drew := (Upd.refl _ _).drew
              have hn : SZ wc R w.heap.size q' mn mx wc.drew := ⟨(Upd.refl _ _).drew, HC.out.c1, HB4.out⟩
              refine wp_region_noPanic ?_
              refine wp_region_held_drew (S := (SZ wc R w.heap.size q' mn mx)) (by kernel_rfl) (by first | exact hn | exact (Upd.refl _ _).drew | exact Upd.drew (by assumption)) (fun hn => ?_)
              generalize wc.drew = wd at *
              refine wpAnyH_take (i := 0) (oi := { dst := some 72, op := Op.move (Operand.tmp 0), type := 33, pos := "ref.go:199", after := #[], guard := none }) (v := ?v22x1) rfl (by kernel_rfl) (by kernel_rfl) (by kernel_rfl) (fun _ _ _ h => h) (Or.inl ⟨by rfl, ?y22x1⟩) hn ?r22x1
              case y22x1 => (intro wS hS; (try go_simp); (try with_reducible rfl))
              try simp only [Act.put, List.setIfInBounds_toArray, List.set_cons_zero, List.set_cons_succ]
              refine wpAnyH_take (i := 1) (oi := { dst := some 73, op := Op.load 44 (Operand.tmp 5), type := 44, pos := "ref.go:199", after := #[], guard := none }) (v := ?v22x2) rfl (by kernel_rfl) (by kernel_rfl) (by kernel_rfl) (fun _ _ _ h => h) (Or.inl ⟨by rfl, ?y22x2⟩) hn ?r22x2
              case y22x2 => (intro wS hS; rw [load_box (cs := #[.int .i64 mn, .int .i64 mx]) (t := 44) (g := w.heap.size) rfl rfl hS.bx Try.underlying44 rfl infoZ]; (try go_simp); (try with_reducible rfl))
              try simp only [Act.put, List.setIfInBounds_toArray, List.set_cons_zero, List.set_cons_succ]
              refine wpAnyH_take (i := 2) (oi := { dst := some 74, op := Op.move (Operand.tmp 0), type := 33, pos := "ref.go:199", after := #[], guard := none }) (v := ?v22x3) rfl (by kernel_rfl) (by kernel_rfl) (by kernel_rfl) (fun _ _ _ h => h) (Or.inl ⟨by rfl, ?y22x3⟩) hn ?r22x3
              case y22x3 => (intro wS hS; (try go_simp); (try with_reducible rfl))
              try simp only [Act.put, List.setIfInBounds_toArray, List.set_cons_zero, List.set_cons_succ]
              refine wpAnyH_take (i := 5) (oi := { dst := some 77, op := Op.move (Operand.tmp 0), type := 33, pos := "ref.go:199", after := #[], guard := none }) (v := ?v22x4) rfl (by kernel_rfl) (by kernel_rfl) (by kernel_rfl) (fun _ _ _ h => h) (Or.inl ⟨by rfl, ?y22x4⟩) hn ?r22x4
              case y22x4 => (intro wS hS; (try go_simp); (try with_reducible rfl))
              try simp only [Act.put, List.setIfInBounds_toArray, List.set_cons_zero, List.set_cons_succ]
              refine wpAnyH_take (i := 6) (oi := { dst := some 78, op := Op.nilCheck (Operand.tmp 77), type := 0, pos := "ref.go:199", after := #[{ on := 5, ground := Ground.data }], guard := none }) (v := ?v22x5) rfl (by kernel_rfl) (by kernel_rfl) (by kernel_rfl) (fun _ _ _ h => h) (Or.inl ⟨by rfl, ?y22x5⟩) hn ?r22x5
              case y22x5 => (intro wS hS; (try go_simp); (try with_reducible rfl))
              try simp only [Act.put, List.setIfInBounds_toArray, List.set_cons_zero, List.set_cons_succ]
              refine wpAnyH_take (i := 7) (oi := { dst := some 79, op := Op.fieldAddr 37 (Operand.tmp 78) 1, type := 0, pos := "ref.go:199", after := #[{ on := 6, ground := Ground.data }], guard := none }) (v := ?v22x6) rfl (by kernel_rfl) (by kernel_rfl) (by kernel_rfl) (fun _ _ _ h => h) (Or.inl ⟨by rfl, ?y22x6⟩) hn ?r22x6
              case y22x6 => (intro wS hS; (try go_simp); (try with_reducible rfl))
              try simp only [Act.put, List.setIfInBounds_toArray, List.set_cons_zero, List.set_cons_succ]
              refine wpAnyH_take (i := 8) (oi := { dst := some 80, op := Op.load 3 (Operand.tmp 79), type := 3, pos := "ref.go:199", after := #[{ on := 7, ground := Ground.data }], guard := none }) (v := ?v22x7) rfl (by kernel_rfl) (by kernel_rfl) (by kernel_rfl) (fun _ _ _ h => h) (Or.inl ⟨by rfl, ?y22x7⟩) hn ?r22x7
              case y22x7 => (intro wS hS; have c := hS.c1; (try go_simp); (try with_reducible rfl))
              try simp only [Act.put, List.setIfInBounds_toArray, List.set_cons_zero, List.set_cons_succ]
              refine wpAnyH_take (i := 9) (oi := { dst := some 81, op := Op.binOp BinOp.sub 3 (Operand.tmp 80) (Operand.const (Value.int IntKind.i64 1)) 3, type := 3, pos := "ref.go:199", after := #[{ on := 8, ground := Ground.data }], guard := none }) (v := ?v22x8) rfl (by kernel_rfl) (by kernel_rfl) (by kernel_rfl) (fun _ _ _ h => h) (Or.inl ⟨by rfl, ?y22x8⟩) hn ?r22x8
              case y22x8 => (intro wS hS; (try go_simp); (try with_reducible rfl))
              try simp only [Act.put, List.setIfInBounds_toArray, List.set_cons_zero, List.set_cons_succ]
              refine wpAnyH_ready (rs := [3]) (by kernel_rfl) (by simp) ?_
              refine AllReadyH.cons (o := { dst := some 75, op := Op.call { callee := Callee.value (Operand.func 38), args := #[Operand.tmp 74], argTypes := #[33] }, type := 3, pos := "ref.go:199", after := #[{ on := 2, ground := Ground.data }], guard := none }) rfl (fun K hK => ?_) AllReadyH.nil
              go_simp
              refine (HRS.out _ hnn).mono ?_
              rintro e wa ⟨rfl, hna⟩
              go_wp2_with fail
              have hn := hn.new hna
              have hnn := New.trans hnn hna
              refine hK.out _ _ (by first | exact hn | exact Upd.alloc hn _) (fun hn => ?_)
              clear hK K
              try simp only [Act.put, List.setIfInBounds_toArray, List.set_cons_zero, List.set_cons_succ]
              refine wpAnyH_ready (rs := [4]) (by kernel_rfl) (by simp) ?_
              refine AllReadyH.cons (o := { dst := some 76, op := Op.call { callee := Callee.value (Operand.func 50), args := #[Operand.tmp 73, Operand.tmp 75], argTypes := #[44, 3] }, type := 4, pos := "ref.go:199", after := #[{ on := 1, ground := Ground.data }, { on := 3, ground := Ground.data }, { on := 3, ground := Ground.chain }], guard := none }) rfl (fun K hK => ?_) AllReadyH.nil
              go_simp
              refine (HHR.out _).mono ?_
              rintro e wb ⟨d, rfl, hd, hnb⟩
              have HD := hid hd
              clear hd
              go_wp2_with fail
              have hn := hn.new hnb
              have hnn := New.trans hnn hnb
              refine hK.out _ _ (by first | exact hn | exact Upd.alloc hn _) (fun hn => ?_)
              clear hK K
              try simp only [Act.put, List.setIfInBounds_toArray, List.set_cons_zero, List.set_cons_succ]
              refine wpAnyH_ready (rs := [10]) (by kernel_rfl) (by simp) ?_
              refine AllReadyH.cons (o := { dst := some 82, op := Op.call { callee := Callee.value (Operand.func 31), args := #[Operand.tmp 72, Operand.tmp 76, Operand.tmp 81], argTypes := #[33, 4, 3] }, type := 0, pos := "ref.go:199", after := #[{ on := 0, ground := Ground.data }, { on := 4, ground := Ground.data }, { on := 9, ground := Ground.data }, { on := 4, ground := Ground.chain }], guard := none }) rfl (fun K hK => ?_) AllReadyH.nil
              go_simp
              refine (rNeed_RS (HC.out.new hnn) d).mono ?_
              rintro e wc ⟨rfl, h5, u5⟩
              have H5 := hid h5
              go_wp2_with fail
              have hn := hn.upd u5 HNE.out h5.c1
              clear h5
              refine hK.out _ _ (by first | exact hn | exact Upd.alloc hn _) (fun hn => ?_)
              clear hK K
              try simp only [Act.put, List.setIfInBounds_toArray, List.set_cons_zero, List.set_cons_succ]
              refine wpAnyH_done (by kernel_rfl) ?_ _
              refine NoPanic.normal ?_
              have U5 := hid (HU.out.trans hn.up (fun _ _ h => h))
              clear hn hnn e81 u5 hna hnb
              go_wp2_with fail
              go_meet
              have hcs := HCS.out
              have h5 := H5.out
              have hal : Same b.toNat lw (if i < l then lw else 7) ↔ (i < l ∨ alike b.toNat lw) := by
                by_cases hil : i < l
                · rw [if_pos hil]
                  exact ⟨fun _ => .inl hil, fun _ j h1 h2 => by omega⟩
                · rw [if_neg hil, alike_bits _ _ hb hw1 (HWL.out (by omega))]
                  exact ⟨.inr, fun h => h.resolve_left hil⟩
              rw [hal] at hcs
              have hF : (c && d) = true ↔ mayS (fun r => hasR mn mx r) bits ds b r := by
                rw [HSH.out, Bool.and_eq_true, hcs, HD.out]
                exact and_comm
              have U6 := U3.out.trans U5.out (fun _ _ h => h)
              refine ⟨U6, ?_⟩
              rw [← HNUM.out]
              by_cases hcd : mayS (fun r => hasR mn mx r) bits ds b r
              · have hcd2 := hF.2 hcd
                rw [hcd2] at h5
                refine .inl ⟨ds ++ [b], q', ?_, ?_, h5⟩
                · have := NUB.out.1 hcd
                  rw [if_pos hb] at this
                  exact this
                · have := HBY3.out.upd U5.out (fun g hg hh => by have := FR3.out g hg; omega)
                  rw [HLEN.out] at this
                  exact this
              · have hcd2 : (c && d) = false := by
                  cases hx : (c && d)
                  · rfl
                  · exact absurd (hF.1 hx) hcd
                rw [hcd2] at h5
                exact .inr ⟨q', 2, q1, by decide, h5, NUB.out.2 hcd⟩
          · have hbi : ¬ ((b.toNat : Int)) < 128 := by omega
            have HNE := hid (show w.heap.size ≠ R by omega)
            have HOP : Hid (mayS (fun r => hasR mn mx r) bits ds b (rest lim q') ↔ OpZ mn mx lim q' (l + 1 - i)) := by
              have := sopen_iff mn mx hrl.out bits hb2 ds b hb
              rw [HII.out, HLL.out] at this
              rw [this]
              exact ⟨fun ⟨j, h1, h2, h3⟩ => ⟨j, h1, by omega, h3⟩, fun ⟨j, h1, h2, h3⟩ => ⟨j, h1, by omega, h3⟩⟩
            have HHR : Hid (∀ (r : Int) W, Calls Try.prog 50 #[.agg #[.int .i64 mn, .int .i64 mx], .int .i64 r] W (Yes (hasR mn mx r) W)) := fun r W => rHasR_any mn mx r W hm
            have HBE : Hid (∀ j : Nat, j ≤ 100 → ∀ W, New w3 W → Calls Try.prog 64 #[.pointer (some ⟨R, 0, none⟩), .int .i64 j] W fun e w' => e = .returned (.int .i64 (behD lim q' j)) ∧ New W w') :=
              fun j h1 W hW => rBehind_any (H3.out.new hW) HIQ2.out j (by omega) (by omega)
            go_wp2_with fail
            obtain ⟨wo, rfl⟩ : ∃ wo, wo = w3 := ⟨_, rfl⟩
            go_loopw [13, 14] (fun o a wi => ∃ (j : Nat) (ob : Bool), o = .bool ob ∧ a = .int .i64 j ∧ 1 ≤ j ∧ i + j ≤ l + 1 ∧ New wo wi ∧ (ob = true ↔ OpZ mn mx lim q' j)) (fun _ a _ => l + 1 - i - (intOf a).toNat)
            case atStart => exact ⟨1, false, rfl, rfl, Nat.le_refl _, by omega, Upd.refl _ _, by simp only [Bool.false_eq_true, false_iff]; rintro ⟨z, h1, h2, _⟩; omega⟩
            case round =>
              obtain ⟨j, ob, rfl, rfl, hj1, hj5, hwi, hob⟩ := hrel
              obtain ⟨wi, rfl⟩ : ∃ wi : World, wi = wr := ⟨_, rfl⟩
              have HWI := hid hwi
              have HOB := hid hob
              clear hob
              by_cases hj : i + j < l + 1
              · have hjb : (i : Int) + j < (l : Int) + 1 := by omega
                cases ob with
                | true =>
                  go_upto_region 20 with fail
                  have hn : New wi wi.drew := (Upd.refl _ _).drew
                  refine wp_region_noPanic ?_
                  refine wp_region_held_drew (S := (New wi)) (by kernel_rfl) (by first | exact hn | exact (Upd.refl _ _).drew | exact Upd.drew (by assumption)) (fun hn => ?_)
                  refine wpAnyH_take (i := 0) (oi := { dst := some 90, op := Op.move (Operand.tmp 13), type := 4, pos := "ref.go:204", after := #[], guard := none }) (v := ?v23x1) rfl (by kernel_rfl) (by kernel_rfl) (by kernel_rfl) (fun _ _ _ h => h) (Or.inl ⟨by rfl, ?y23x1⟩) hn ?r23x1
                  case y23x1 => (intro wS hS; (try go_simp); (try with_reducible rfl))
                  try simp only [Act.put, List.setIfInBounds_toArray, List.set_cons_zero, List.set_cons_succ]
                  refine wpAnyH_take (i := 1) (oi := { dst := some 91, op := Op.move (Operand.tmp 90), type := 4, pos := "ref.go:204", after := #[{ on := 0, ground := Ground.data }], guard := none }) (v := ?v23x2) rfl (by kernel_rfl) (by kernel_rfl) (by kernel_rfl) (fun _ _ _ h => h) (Or.inl ⟨by rfl, ?y23x2⟩) hn ?r23x2
                  case y23x2 => (intro wS hS; (try go_simp); (try with_reducible rfl))
                  try simp only [Act.put, List.setIfInBounds_toArray, List.set_cons_zero, List.set_cons_succ]
                  refine wpAnyH_take (i := 2) (oi := { dst := some 92, op := Op.load 44 (Operand.tmp 5), type := 44, pos := "ref.go:204", after := #[{ on := 1, ground := Ground.guard }], guard := some (1, false) }) (v := undef) rfl (by kernel_rfl) (by kernel_rfl) (by kernel_rfl) (fun _ _ _ h => h) (Or.inr ⟨by rfl, rfl⟩) hn ?_
                  try simp only [Act.put, List.setIfInBounds_toArray, List.set_cons_zero, List.set_cons_succ]
                  refine wpAnyH_take (i := 3) (oi := { dst := some 93, op := Op.move (Operand.tmp 0), type := 33, pos := "ref.go:204", after := #[{ on := 1, ground := Ground.guard }], guard := some (1, false) }) (v := undef) rfl (by kernel_rfl) (by kernel_rfl) (by kernel_rfl) (fun _ _ _ h => h) (Or.inr ⟨by rfl, rfl⟩) hn ?_
                  try simp only [Act.put, List.setIfInBounds_toArray, List.set_cons_zero, List.set_cons_succ]
                  refine wpAnyH_take (i := 4) (oi := { dst := some 94, op := Op.move (Operand.tmp 14), type := 3, pos := "ref.go:204", after := #[{ on := 1, ground := Ground.guard }], guard := some (1, false) }) (v := undef) rfl (by kernel_rfl) (by kernel_rfl) (by kernel_rfl) (fun _ _ _ h => h) (Or.inr ⟨by rfl, rfl⟩) hn ?_
                  try simp only [Act.put, List.setIfInBounds_toArray, List.set_cons_zero, List.set_cons_succ]
                  refine wpAnyH_take (i := 5) (oi := { dst := some 95, op := Op.call { callee := Callee.value (Operand.func 64), args := #[Operand.tmp 93, Operand.tmp 94], argTypes := #[33, 3] }, type := 3, pos := "ref.go:204", after := #[{ on := 3, ground := Ground.data }, { on := 4, ground := Ground.data }, { on := 1, ground := Ground.chain }, { on := 1, ground := Ground.guard }], guard := some (1, false) }) (v := undef) rfl (by kernel_rfl) (by kernel_rfl) (by kernel_rfl) (fun _ _ _ h => h) (Or.inr ⟨by rfl, rfl⟩) hn ?_
                  try simp only [Act.put, List.setIfInBounds_toArray, List.set_cons_zero, List.set_cons_succ]
                  refine wpAnyH_take (i := 6) (oi := { dst := some 96, op := Op.call { callee := Callee.value (Operand.func 50), args := #[Operand.tmp 92, Operand.tmp 95], argTypes := #[44, 3] }, type := 4, pos := "ref.go:204", after := #[{ on := 2, ground := Ground.data }, { on := 5, ground := Ground.data }, { on := 5, ground := Ground.chain }, { on := 1, ground := Ground.guard }], guard := some (1, false) }) (v := undef) rfl (by kernel_rfl) (by kernel_rfl) (by kernel_rfl) (fun _ _ _ h => h) (Or.inr ⟨by rfl, rfl⟩) hn ?_
                  try simp only [Act.put, List.setIfInBounds_toArray, List.set_cons_zero, List.set_cons_succ]
                  refine wpAnyH_take (i := 7) (oi := { dst := some 97, op := Op.pick (Operand.tmp 91) (Operand.const (Value.bool true)) (Operand.tmp 96), type := 4, pos := "ref.go:204", after := #[{ on := 1, ground := Ground.data }, { on := 6, ground := Ground.data }], guard := none }) (v := ?v23x8) rfl (by kernel_rfl) (by kernel_rfl) (by kernel_rfl) (fun _ _ _ h => h) (Or.inl ⟨by rfl, ?y23x8⟩) hn ?r23x8
                  case y23x8 => (intro wS hS; (try go_simp); (try with_reducible rfl))
                  try simp only [Act.put, List.setIfInBounds_toArray, List.set_cons_zero, List.set_cons_succ]
                  refine wpAnyH_take (i := 8) (oi := { dst := some 13, op := Op.assign (Operand.tmp 97), type := 4, pos := "ref.go:204", after := #[{ on := 7, ground := Ground.data }, { on := 6, ground := Ground.chain }, { on := 0, ground := Ground.phase }, { on := 1, ground := Ground.phase }, { on := 2, ground := Ground.phase }, { on := 3, ground := Ground.phase }, { on := 4, ground := Ground.phase }, { on := 5, ground := Ground.phase }, { on := 6, ground := Ground.phase }, { on := 7, ground := Ground.phase }], guard := none }) (v := ?v23x9) rfl (by kernel_rfl) (by kernel_rfl) (by kernel_rfl) (fun _ _ _ h => h) (Or.inl ⟨by rfl, ?y23x9⟩) hn ?r23x9
                  case y23x9 => (intro wS hS; (try go_simp); (try with_reducible rfl))
                  try simp only [Act.put, List.setIfInBounds_toArray, List.set_cons_zero, List.set_cons_succ]
                  refine wpAnyH_done (by kernel_rfl) ?_ _
                  refine NoPanic.normal ?_
                  go_wp2_with fail
                  go_roundw
                  case rel =>
                    refine ⟨j + 1, true, rfl, by go_num, by omega, by omega, New.trans HWI.out hn, ?_⟩
                    obtain ⟨z, h1, h2, h3⟩ := HOB.out.1 (by first | rfl | trivial)
                    simp only [true_iff]
                    exact ⟨z, h1, by omega, h3⟩
                  case measure => simp [intOf]; omega
                | false =>
                  go_upto_region 20 with fail
                  have hnn : New wo wi.drew := New.trans hwi ((Upd.refl _ _).drew)
                  have hn : New wi wi.drew := (Upd.refl _ _).drew
                  have hbxi : Hid (∀ W, New wi W → W.heap[w.heap.size]? = some (.cells #[.int .i64 mn, .int .i64 mx] 44)) := fun W hW => ((New.trans HWI.out hW).block _ HB3.out.lt (fun h => h)).trans HB3.out
                  clear hwi
                  refine wp_region_noPanic ?_
                  refine wp_region_held_drew (S := (New wi)) (by kernel_rfl) (by first | exact hn | exact (Upd.refl _ _).drew | exact Upd.drew (by assumption)) (fun hn => ?_)
                  generalize wi.drew = wd at *
                  refine wpAnyH_take (i := 0) (oi := { dst := some 90, op := Op.move (Operand.tmp 13), type := 4, pos := "ref.go:204", after := #[], guard := none }) (v := ?v24x1) rfl (by kernel_rfl) (by kernel_rfl) (by kernel_rfl) (fun _ _ _ h => h) (Or.inl ⟨by rfl, ?y24x1⟩) hn ?r24x1
                  case y24x1 => (intro wS hS; (try go_simp); (try with_reducible rfl))
                  try simp only [Act.put, List.setIfInBounds_toArray, List.set_cons_zero, List.set_cons_succ]
                  refine wpAnyH_take (i := 1) (oi := { dst := some 91, op := Op.move (Operand.tmp 90), type := 4, pos := "ref.go:204", after := #[{ on := 0, ground := Ground.data }], guard := none }) (v := ?v24x2) rfl (by kernel_rfl) (by kernel_rfl) (by kernel_rfl) (fun _ _ _ h => h) (Or.inl ⟨by rfl, ?y24x2⟩) hn ?r24x2
                  case y24x2 => (intro wS hS; (try go_simp); (try with_reducible rfl))
                  try simp only [Act.put, List.setIfInBounds_toArray, List.set_cons_zero, List.set_cons_succ]
                  refine wpAnyH_take (i := 2) (oi := { dst := some 92, op := Op.load 44 (Operand.tmp 5), type := 44, pos := "ref.go:204", after := #[{ on := 1, ground := Ground.guard }], guard := some (1, false) }) (v := ?v24x3) rfl (by kernel_rfl) (by kernel_rfl) (by kernel_rfl) (fun _ _ _ h => h) (Or.inl ⟨by rfl, ?y24x3⟩) hn ?r24x3
                  case y24x3 => (intro wS hS; rw [load_box (cs := #[.int .i64 mn, .int .i64 mx]) (t := 44) (g := w.heap.size) rfl rfl (hbxi.out _ hS) Try.underlying44 rfl infoZ]; (try go_simp); (try with_reducible rfl))
                  try simp only [Act.put, List.setIfInBounds_toArray, List.set_cons_zero, List.set_cons_succ]
                  refine wpAnyH_take (i := 3) (oi := { dst := some 93, op := Op.move (Operand.tmp 0), type := 33, pos := "ref.go:204", after := #[{ on := 1, ground := Ground.guard }], guard := some (1, false) }) (v := ?v24x4) rfl (by kernel_rfl) (by kernel_rfl) (by kernel_rfl) (fun _ _ _ h => h) (Or.inl ⟨by rfl, ?y24x4⟩) hn ?r24x4
                  case y24x4 => (intro wS hS; (try go_simp); (try with_reducible rfl))
                  try simp only [Act.put, List.setIfInBounds_toArray, List.set_cons_zero, List.set_cons_succ]
                  refine wpAnyH_take (i := 4) (oi := { dst := some 94, op := Op.move (Operand.tmp 14), type := 3, pos := "ref.go:204", after := #[{ on := 1, ground := Ground.guard }], guard := some (1, false) }) (v := ?v24x5) rfl (by kernel_rfl) (by kernel_rfl) (by kernel_rfl) (fun _ _ _ h => h) (Or.inl ⟨by rfl, ?y24x5⟩) hn ?r24x5
                  case y24x5 => (intro wS hS; (try go_simp); (try with_reducible rfl))
                  try simp only [Act.put, List.setIfInBounds_toArray, List.set_cons_zero, List.set_cons_succ]
                  refine wpAnyH_ready (rs := [5]) (by kernel_rfl) (by simp) ?_
                  refine AllReadyH.cons (o := { dst := some 95, op := Op.call { callee := Callee.value (Operand.func 64), args := #[Operand.tmp 93, Operand.tmp 94], argTypes := #[33, 3] }, type := 3, pos := "ref.go:204", after := #[{ on := 3, ground := Ground.data }, { on := 4, ground := Ground.data }, { on := 1, ground := Ground.chain }, { on := 1, ground := Ground.guard }], guard := some (1, false) }) rfl (fun K hK => ?_) AllReadyH.nil
                  go_simp
                  refine (HBE.out j (by omega) _ hnn).mono ?_
                  rintro e wa ⟨rfl, hna⟩
                  go_wp2_with fail
                  have hn := New.trans hn hna
                  have hnn := New.trans hnn hna
                  refine hK.out _ _ (by first | exact hn | exact Upd.alloc hn _) (fun hn => ?_)
                  clear hK K
                  try simp only [Act.put, List.setIfInBounds_toArray, List.set_cons_zero, List.set_cons_succ]
                  refine wpAnyH_ready (rs := [6]) (by kernel_rfl) (by simp) ?_
                  refine AllReadyH.cons (o := { dst := some 96, op := Op.call { callee := Callee.value (Operand.func 50), args := #[Operand.tmp 92, Operand.tmp 95], argTypes := #[44, 3] }, type := 4, pos := "ref.go:204", after := #[{ on := 2, ground := Ground.data }, { on := 5, ground := Ground.data }, { on := 5, ground := Ground.chain }, { on := 1, ground := Ground.guard }], guard := some (1, false) }) rfl (fun K hK => ?_) AllReadyH.nil
                  go_simp
                  refine (HHR.out _ _).mono ?_
                  rintro e wb ⟨c, rfl, hc, hnb⟩
                  have HC := hid hc
                  clear hc
                  go_wp2_with fail
                  have hn := New.trans hn hnb
                  have hnn := New.trans hnn hnb
                  refine hK.out _ _ (by first | exact hn | exact Upd.alloc hn _) (fun hn => ?_)
                  clear hK K
                  try simp only [Act.put, List.setIfInBounds_toArray, List.set_cons_zero, List.set_cons_succ]
                  refine wpAnyH_take (i := 7) (oi := { dst := some 97, op := Op.pick (Operand.tmp 91) (Operand.const (Value.bool true)) (Operand.tmp 96), type := 4, pos := "ref.go:204", after := #[{ on := 1, ground := Ground.data }, { on := 6, ground := Ground.data }], guard := none }) (v := ?v24x6) rfl (by kernel_rfl) (by kernel_rfl) (by kernel_rfl) (fun _ _ _ h => h) (Or.inl ⟨by rfl, ?y24x6⟩) hn ?r24x6
                  case y24x6 => (intro wS hS; (try go_simp); (try with_reducible rfl))
                  try simp only [Act.put, List.setIfInBounds_toArray, List.set_cons_zero, List.set_cons_succ]
                  refine wpAnyH_take (i := 8) (oi := { dst := some 13, op := Op.assign (Operand.tmp 97), type := 4, pos := "ref.go:204", after := #[{ on := 7, ground := Ground.data }, { on := 6, ground := Ground.chain }, { on := 0, ground := Ground.phase }, { on := 1, ground := Ground.phase }, { on := 2, ground := Ground.phase }, { on := 3, ground := Ground.phase }, { on := 4, ground := Ground.phase }, { on := 5, ground := Ground.phase }, { on := 6, ground := Ground.phase }, { on := 7, ground := Ground.phase }], guard := none }) (v := ?v24x7) rfl (by kernel_rfl) (by kernel_rfl) (by kernel_rfl) (fun _ _ _ h => h) (Or.inl ⟨by rfl, ?y24x7⟩) hn ?r24x7
                  case y24x7 => (intro wS hS; (try go_simp); (try with_reducible rfl))
                  try simp only [Act.put, List.setIfInBounds_toArray, List.set_cons_zero, List.set_cons_succ]
                  refine wpAnyH_done (by kernel_rfl) ?_ _
                  refine NoPanic.normal ?_
                  go_wp2_with fail
                  go_roundw
                  case rel =>
                    refine ⟨j + 1, c, rfl, by go_num, by omega, by omega, hnn, ?_⟩
                    rw [HC.out]
                    constructor
                    · intro h; exact ⟨j, hj1, by omega, h⟩
                    · rintro ⟨z, h1, h2, h3⟩
                      rcases Nat.lt_or_ge z j with h4 | h4
                      · have := HOB.out.2 ⟨z, h1, h4, h3⟩
                        simp at this
                      · have : z = j := by omega
                        subst this
                        exact h3
                  case measure => simp [intOf]; omega
              · obtain rfl : j = l + 1 - i := by omega
                have h3 := H3.out.new HWI.out
                have c1 := h3.c1
                have e41 : (q' : Int) - 1 = (q1 : Int) := by have h3 := HQ2.out; omega
                have hql := HIQ2.out.place
                have hqb := HIQ2.out.len
                have HND := hid (rNeed_any' h3 ob q1)
                have hji : ((i : Int) + ((l + 1 - i : Nat) : Int)) = (l : Int) + 1 := by omega
                clear h3 hwi hj
                go_wp2_with fail
                refine HND.out.mono ?_
                rintro e w5 ⟨rfl, h5, u5⟩
                have U4 := hid ((Upd.refl (· = R) wo).thenNew HWI.out)
                have U5 := hid (U4.out.trans u5 (fun _ _ h => h))
                have H5 := hid h5
                clear h5 u5 c1 e41 hji
                go_wp2_with fail
                go_roundg (l + 2 - (i + 1))
                case measure => have := HK.out; omega
                case rel =>
                  have hlen := HLEN.out
                  have h5 := H5.out
                  have U6 := U3.out.trans U5.out (fun _ _ h => h)
                  have hB := (U5.out.block _ HB3.out.lt (by omega)).trans HB3.out
                  have hby := HBY3.out.upd U5.out (fun g hg hh => by have := FR3.out g hg; omega)
                  have hfr := FR3.out
                  rw [hlen] at hby hfr
                  refine ⟨ds ++ [b], ⟨U6, hB, hby, hfr, ?_⟩⟩
                  rw [HLL.out, hlen]
                  cases ob with
                  | true =>
                    have hop := HOB.out.1 (by first | rfl | trivial)
                    have hm := NUB.out.1 (HOP.out.2 hop)
                    rw [HNUM.out, if_neg hb] at hm
                    obtain ⟨z, h1, h2, _⟩ := hop
                    refine .inl ⟨q', h5, HIQ2.out, by omega, rfl, ?_⟩
                    rw [show l + 1 - (i + 1) = n by have := HNN.out; omega]
                    exact hm.symm
                  | false =>
                    have hm := NUB.out.2 (fun h => by have := HOB.out.2 (HOP.out.1 h); simp at this)
                    rw [HNUM.out] at hm
                    exact .inr ⟨q', 2, q1, by decide, h5, hm, rfl, by omega⟩
      · have hne := he
        have HE := hid he
        have HR := hid hr
        have HO2 := hid ho
        have HG := hid (rNext_gone hr he)
        have c3 := hr.c3
        have hb : ((er : Int) != 0) = true := by rw [bne_iff_ne]; omega
        rw [HLL.out] at hl5
        obtain ⟨i, hi⟩ : ∃ i, ds.length = i := ⟨_, rfl⟩
        rw [hi] at hl5 ⊢
        have HII := hid hi
        clear he hr ho hi hk
        by_cases h5 : i < l + 1
        · have h5i : (i : Int) < (l : Int) + 1 := by omega
          go_wp2_with fail
          refine HG.out.mono ?_
          rintro e w2 ⟨rfl, rfl⟩
          unfold cb
          go_wp2_with fail
          go_ret
          exact RGot.mk_up [] HO2.out IR.out.up rfl HR.out
        · go_wp2_with fail
          go_meet
          exact ⟨IR.out.up, .inr ⟨p', er, sp, HE.out, HR.out, HO2.out⟩⟩
  case rest =>
    obtain ⟨hu, hz⟩ := hcut
    have HU := hid hu
    clear hu I0
    rcases hz with ⟨ds, q, ho, hby, hr⟩ | ⟨p', er, sp, he, hr, ho⟩
    · have HO2 := hid ho
      have HR := hid hr
      have c3 := hr.c3
      obtain ⟨s, x, hln, hs9, hgx, hx, hsv, hv1, hv2⟩ := sint_bd hb2 (HO.out.trans ho)
      have hsl : s < ds.length := by omega
      obtain ⟨av, cv, rfl, hcap, -, hcell⟩ := hby.rd
      obtain ⟨b, o, rfl, hce⟩ := hcell (by intro h; subst h; simp at hln)
      clear hcell hby
      have hcx := hce s hsl
      obtain ⟨hsl', hgx'⟩ := List.getElem?_eq_some_iff.1 hgx
      rw [hgx'] at hcx
      unfold cb at hcx
      have HCE := hid hce
      have HLN := hid hln
      have HSV := hid hsv
      have HVB : Hid (-9223372036854775808 ≤ sval ds ∧ sval ds < 9223372036854775808) := hid ⟨hv1, hv2⟩
      rw [hln]
      rw [hln] at hcap
      have e114 : (s : Int) + 1 - 1 = s := by omega
      clear hce hsv hv1 hv2 hgx hgx' hsl' hln ho hr
      generalize wc = w9 at *
      go_upto_if 119 with fail
      go_cut [15] (fun v wx => v = .int .i64 (top x.toNat) ∧ w9 = wx)
      case first =>
        by_cases h64 : 64 ≤ x.toNat
        · have HT : Hid (top x.toNat = (x.toNat : Int) - 128) := if_neg (by omega)
          go_wp2_with fail
          go_meet
          exact ⟨by rw [HT.out], rfl⟩
        · have HT : Hid (top x.toNat = (x.toNat : Int)) := if_pos (by omega)
          go_wp2_with fail
          go_meet
          exact ⟨by rw [HT.out], rfl⟩
      case rest =>
        obtain ⟨rfl, rfl⟩ := hcut
        clear hcx e114
        go_wp2_with fail
        go_loop [15, 16] (fun v c => ∃ (j : Nat) (z : Int), c = .int .i64 z ∧ j ≤ s ∧ z = (j : Int) - 1 ∧ v = .int .i64 (sval (ds.drop j))) (fun _ c => ((intOf c) + 1).toNat)
        case atStart => exact ⟨s, s + 1 - 2, rfl, Nat.le_refl _, by omega, by rw [HSV.out]⟩
        case round =>
          obtain ⟨j, z, rfl, hj, hz, rfl⟩ := hrel
          rcases j with _ | k
          · obtain rfl : z = -1 := by omega
            clear hz
            go_wp2_with fail
            go_ret
            exact RGot.mk_ok HO2.out HU.out (by unfold SintV; rfl) HR.out
          · obtain rfl : z = (k : Int) := by omega
            clear hz
            have hkl : k < ds.length := by omega
            have hck := HCE.out k hkl
            unfold cb at hck
            have hstep := sval_drop_step ds k (by have := HLN.out; omega)
            have hbd := sval_drop_bd ds HVB.out.1 HVB.out.2 k hkl
            have hy := u8_lt ds[k]
            have HT : Hid (.int .i64 (sval (ds.drop (k + 1)) * 128 + (ds[k].toNat : Int) % 128) = Value.int .i64 (sval (ds.drop k))) := by
              show Value.int .i64 _ = Value.int .i64 _
              rw [hstep]
              congr 1
              omega
            have hV : -72057594037927936 ≤ sval (ds.drop (k + 1)) ∧ sval (ds.drop (k + 1)) ≤ 72057594037927935 := by omega
            obtain ⟨hV1, hV2⟩ := hV
            clear hstep hbd
            generalize sval (ds.drop (k + 1)) = V at *
            generalize ds[k] = y at *
            go_wp2_with fail
            go_round
            case rel => exact ⟨k, k - 1, rfl, by omega, rfl, HT.out⟩
            case measure => simp [intOf]
    · have HE := hid he
      have HR := hid hr
      have HO2 := hid ho
      have c3 := hr.c3
      have hb : ((er : Int) != 0) = true := by rw [bne_iff_ne]; omega
      clear he hr ho
      go_wp2_with fail
      go_ret
      exact RGot.mk_up [] HO2.out HU.out rfl HR.out
end Go.Proofs.Ytkfohickmdkplaa

namespace Go.Proofs.Ytkfohickmdkplaa
open Go.RowKit Go.Proofs.Leb Go.Proofs.Own Go.Proofs.Cur Go.Proofs.Span
theorem rawO_er {bs : List UInt8} {lim n : Int} {p q er : Nat} (h : rawO bs lim n p = .up q er) : er ≠ 0 := by
  unfold rawO at h
  split at h
  · cases h
  · split at h <;> cases h <;> decide
theorem nameL_er {bs : List UInt8} {lim : Int} : ∀ (k : Nat) (cur : List UInt8) (p : Nat) {q er : Nat}, nameL bs lim k cur p = .up q er → er ≠ 0
  | 0, cur, p, q, er, h => by unfold nameL at h; cases h
  | k + 1, cur, p, q, er, h => by
    rw [nameL_step] at h
    cases hb : byteO bs lim (mayN (k + 1) cur) p with
    | up q' e' => rw [hb] at h; cases h; exact byteO_er hb
    | ok y q' => rw [hb] at h; exact nameL_er k _ q' h
theorem nameS_er {bs : List UInt8} {lim : Int} {S : Int → Nat → Prop} {p q er : Nat} (h : nameS bs lim S p = .up q er) : er ≠ 0 := by
  unfold nameS at h
  cases hb : uintO bs lim S p with
  | up q' e' => rw [hb] at h; cases h; exact numO_er hb
  | ok ds q' =>
    rw [hb] at h
    cases hc : nameL bs lim (val ds) [] q' with
    | up q2 e2 => simp only [Out.bind, hc] at h; cases h; exact nameL_er _ _ _ hc
    | ok x q2 => simp only [Out.bind, hc] at h; cases h
theorem wantOk_of {a : AskM} {w : World} {pv : Value} (hw : WfA a) (hf : FineA a) (hd : a.doo % 6 = 1) (hr : RdK w pv a.x.picks) : WantOk a.x pv w := by
  obtain ⟨k0, k3, hi, ho, hp, hs⟩ := hf.want hd
  have hk : a.x.kind = 0 ∨ a.x.kind = 1 ∨ a.x.kind = 2 ∨ a.x.kind = 3 := by omega
  refine ⟨⟨hw.xlo, hw.xhi, fun _ => hi, fun _ => ho, fun _ => hf.beh, ?_⟩, hk, hr, by omega, fun y hy => ?_, fun y hy => (hw.picks y hy).1⟩
  · have h1 := hw.i2
    have h2 := hw.o2
    have h3 := hw.b2
    unfold I64 at h1 h2 h3
    exact ⟨h1.2, h2.2, h3.2⟩
  · have := hs y hy
    unfold Span.right at this
    exact this.1
theorem RdA.tail {w : World} {B : Nat → Prop} {b o cap : Nat} {l : List AskM} (h : RdA w B (.slice (some ⟨b, o, none⟩) l.length cap) l) (i : Nat) (hi : i ≤ l.length) :
    RdA w B (.slice (some ⟨b, o + i * 14, none⟩) (l.length - i) (cap - i)) (l.drop i) := by
  obtain ⟨⟨a, c, e, h1⟩, h2⟩ := h
  cases e
  exact ⟨⟨_, _, by rw [List.length_drop], by rw [List.length_drop]; omega⟩, fun hne => RdE.tail (h2 (by intro e; subst e; simp at hne)) i hi⟩
theorem RdA.empty {w : World} {B : Nat → Prop} {b o cap : Nat} {l : List AskM} (_ : RdA w B (.slice (some ⟨b, o, none⟩) l.length cap) l) (_ : l ≠ []) (o' c' : Nat) : RdA w B (.slice (some ⟨b, o', none⟩) 0 c') [] :=
  ⟨⟨_, _, rfl, Nat.zero_le _⟩, fun hne => absurd rfl hne⟩
theorem sintO_er {bs : List UInt8} {lim : Int} {S : Int → Prop} {bits : Nat} {p q er : Nat} (h : sintO bs lim S bits p = .up q er) : er ≠ 0 := numO_er h
theorem askO_er {bs : List UInt8} {lim : Int} {a : AskM} {p q er : Nat} (h : askO bs lim a p = .up q er) : er ≠ 0 := by
  unfold askO at h
  split at h
  · cases hb : byteO bs lim a.byte p with
    | up q' e' => rw [hb] at h; cases h; exact byteO_er hb
    | ok x q' => rw [hb] at h; cases h
  · split at h
    · cases hb : uintO bs lim a.x.may p with
      | up q' e' => rw [hb] at h; cases h; exact numO_er hb
      | ok x q' => rw [hb] at h; cases h
    · split at h
      · cases hb : sintO bs lim (fun r => hasR a.x.b1 a.x.b2 r) a.n.toNat p with
        | up q' e' => rw [hb] at h; cases h; exact numO_er hb
        | ok x q' => rw [hb] at h; cases h
      · split at h
        · exact rawO_er h
        · exact nameS_er h
theorem allO_up {bs : List UInt8} {a : AskM} {t : List AskM} {lim : Int} {p q er : Nat} (h5 : a.doo % 6 ≠ 5) (h : askO bs lim a p = .up q er) : allO bs (a :: t) lim p = ([], .up q er) := by
  unfold allO
  rw [if_neg h5, h]
theorem allO_ok {bs : List UInt8} {a : AskM} {t : List AskM} {lim : Int} {p q : Nat} {s : List UInt8} (h5 : a.doo % 6 ≠ 5) (h : askO bs lim a p = .ok s q) :
    allO bs (a :: t) lim p = (s :: numL q 8 :: numL (rest lim q).toNat 8 :: (allO bs t lim q).1, (allO bs t lim q).2) := by
  show (if a.doo % 6 = 5 then _ else _) = _
  rw [if_neg h5, h]
theorem infoA : (Try.prog.info? 49).map (·.size) = some 14 := by kernel_rfl
end Go.Proofs.Ytkfohickmdkplaa

namespace Go.Proofs.Ytkfohickmdkplaa
open Go.RowKit Go.Proofs.Leb Go.Proofs.Own Go.Proofs.Cur
set_option maxRecDepth 100000

theorem infoStr : (Try.prog.info? 9).map (fun i => (i.zero, i.size, i.bytes)) = some (some (.string ⟨#[]⟩), 1, 16) := by kernel_rfl
/-- a row of texts that can be read -/
def RdT (w : World) (v : Value) (bs : List (List UInt8)) : Prop :=
  ∃ a cap, v = .slice a bs.length cap ∧ bs.length ≤ cap ∧ (a = none → cap = 0) ∧ (bs ≠ [] → ∃ b o, a = some ⟨b, o, none⟩ ∧ ∀ i (h : i < bs.length), w.cell? ⟨b, o + i, none⟩ = some (strV bs[i]))

/-- a row of texts that the call owns -/
def Texts (w : World) (v : Value) (ts : List (List UInt8)) : Prop := w.ownsRow 0 9 1 v ts.length (ts.map strV)
theorem RdT.shape {w : World} {v : Value} {bs : List (List UInt8)} (h : RdT w v bs) : ∃ a cap, v = .slice a bs.length cap := by
  obtain ⟨a, cap, h, -⟩ := h
  exact ⟨a, cap, h⟩
theorem RdT.nil (w : World) : RdT w (.slice none 0 0) [] := ⟨none, 0, rfl, Nat.le_refl _, fun _ => rfl, fun h => absurd rfl h⟩
theorem RdT.upd {S : Nat → Prop} {w w' : World} {v : Value} {bs : List (List UInt8)} (h : RdT w v bs) (hu : Upd S w w') (hn : ∀ k, v.ownBlock = some k → ¬ S k) : RdT w' v bs := by
  obtain ⟨a, cap, rfl, h1, h2, h3⟩ := h
  refine ⟨a, cap, rfl, h1, h2, fun hb => ?_⟩
  obtain ⟨b, o, rfl, hc⟩ := h3 hb
  exact ⟨b, o, rfl, fun i hi => hu.cell (hc i hi) (hn b rfl)⟩
theorem RdT.new {w w' : World} {v : Value} {bs : List (List UInt8)} (h : RdT w v bs) (hu : New w w') : RdT w' v bs := h.upd hu (fun _ _ h => h)
theorem Texts.rd {w : World} {v : Value} {bs : List (List UInt8)} (h : Texts w v bs) : RdT w v bs := by
  obtain ⟨h1, h2⟩ := h
  rcases h2 with ⟨rfl, hn⟩ | ⟨g, cap, cur, rfl, _, hg, hn, hm, hs, ht⟩
  · have : bs = [] := List.eq_nil_of_length_eq_zero hn
    subst this
    exact RdT.nil w
  · refine ⟨_, cap, rfl, hn, (fun h => by cases h), fun _ => ⟨g, 0, rfl, fun i hi => ?_⟩⟩
    have hown : w.ownsRow 0 9 1 (.slice (some ⟨g, 0, none⟩) bs.length cap) bs.length (bs.map strV) := ⟨h1, .inr ⟨g, cap, cur, rfl, Nat.zero_le _, hg, hn, hm, hs, ht⟩⟩
    have := hown.cells (g := g) rfl i (strV bs[i]) (by simp [hi])
    rwa [Addr.add_lit] at this
theorem Texts.upd {S : Nat → Prop} {w w' : World} {v : Value} {bs : List (List UInt8)} (h : Texts w v bs) (hu : Upd S w w') (hn : ∀ k, v.ownBlock = some k → ¬ S k) : Texts w' v bs := ownsRow_upd h hu hn
theorem Texts.new {w w' : World} {v : Value} {bs : List (List UInt8)} (h : Texts w v bs) (hu : New w w') : Texts w' v bs := ownsRow_new h hu
theorem Texts.nil (w : World) : Texts w (.slice none 0 0) [] := World.ownsRow_nil w 0 _ 1
/-- '[]byte{}' -/
theorem Texts.made (w : World) : Texts (w.alloc (.cells #[] 9)) (.slice (some ⟨w.heap.size, 0, none⟩) 0 0) [] :=
  World.ownsRow_made w #[] 0 (Nat.zero_le _) (Nat.zero_le _) rfl

theorem strV_one (x : List UInt8) : (strV x).oneCell' = true := rfl
/-- append of bytes: the run -/
theorem runT {w : World} {sv v : Value} {ds bs : List (List UInt8)} (ty : TypeId)
    (hb : Texts w sv ds) (hr : RdT w v bs) (hl : ds.length + bs.length ≤ 1000000) :
    ∃ v' w', (Builtin.append_ #[25, 25] ty #[sv, v]).run Try.prog w = .ok v' w' ∧ Texts w' v' (ds ++ bs) ∧ Adds w w' sv v' := by
  obtain ⟨ao, cap, rfl, h1, h2, h3⟩ := hr
  obtain ⟨i, hi, hz, hsz, hby⟩ := info_parts infoStr
  cases ao with
  | none =>
    have hc := h2 rfl
    subst hc
    have : bs = [] := List.eq_nil_of_length_eq_zero (by omega)
    subst this
    have hr := run_append_owned_none (P := Try.prog) w 0 25 ty 9 i 1 Try.underlying25 hi sv ds.length (ds.map strV) hb
    exact ⟨sv, w, hr, by simpa using hb, Adds.refl w sv⟩
  | some ad =>
    have hnews : ∀ j u, (bs.map strV)[j]? = some u → w.cell? (ad.add j) = some u := by
      intro j u hj
      have hlt : j < bs.length := by
        have := (List.getElem?_eq_some_iff.1 hj).1
        simpa using this
      obtain ⟨b, o', e, hc⟩ := h3 (by intro e; subst e; simp at hlt)
      cases e
      have hu : u = strV bs[j] := by
        simp only [List.getElem?_map, List.getElem?_eq_getElem hlt, Option.map_some, Option.some.injEq] at hj
        exact hj.symm
      subst hu
      rw [Addr.add_lit]
      exact hc j hlt
    have hone : ∀ u ∈ bs.map strV, u.oneCell' = true := by
      intro u hu
      simp only [List.mem_map] at hu
      obtain ⟨x, _, rfl⟩ := hu
      rfl
    obtain ⟨v', w', hr, ho, ha⟩ := run_append_adds (P := Try.prog) w 25 ty 9 i (.string ⟨#[]⟩) 1 16 Try.underlying25 hi hz hsz hby rfl (by decide) 0 sv ds.length (ds.map strV) hb
      ad bs.length cap (bs.map strV) (by simp) hnews hone (by unfold maxLen; omega) (by omega) (Nat.zero_le _)
    refine ⟨v', w', hr, ?_, ha⟩
    unfold Texts
    rw [List.length_append, List.map_append]
    exact ho

/-- append of bytes, at a goal that is held -/
theorem appT {ops : Array Oper} {rest : List Oper} {o : Oper} {a : Act} {Q : Exit → Act → World → Prop} {w : World} (s x : Operand) {sv v : Value} {ds bs : List (List UInt8)}
    (hb : Texts w sv ds) (hr : RdT w v bs) (hl : ds.length + bs.length ≤ 1000000) (hgd : o.guard = none) (ho : o.op = .call { callee := .builtin .append, args := #[s, x], argTypes := #[25, 25] })
    (hs : a.eval s = sv) (hx : a.eval x = v)
    (h : ∀ v' w', Texts w' v' (ds ++ bs) → Adds w w' sv v' → wpList Try.prog ops Q rest (a.put o.dst v') w') :
    Hold (wpList Try.prog ops Q (o :: rest) a w) := by
  obtain ⟨v', w', hr, ho', ha⟩ := runT o.type hb hr hl
  refine wpList_plain hgd fun K hK => ?_
  unfold Oper.wp execOp
  simp only [ho, resolve, invoke, builtin, Sem.run_bind, Sem.run_pure, Result.andThen_ok, List.map_toArray, List.map_cons, List.map_nil, hs, hx, hr]
  exact hK _ _ (h v' w' ho' ha)

/-- append of bytes, as one step of a region that draws its order -/
theorem stepT {ops : Array Oper} {o : Oper} {a : Act} {w : World} {K : Act → World → Prop} {Q : Exit → Act → World → Prop} {E : Prop} (s x : Operand) {sv v : Value} {ds bs : List (List UInt8)}
    (hb : Texts w sv ds) (hr : RdT w v bs) (hl : ds.length + bs.length ≤ 1000000) (hw : Region.wanted o (yielded ops a.tmps) = true)
    (ho : o.op = .call { callee := .builtin .append, args := #[s, x], argTypes := #[25, 25] }) (hs : a.eval s = sv) (hx : a.eval x = v)
    (h : ∀ v' w', Texts w' v' (ds ++ bs) → Adds w w' sv v' → K (a.put o.dst v') w') :
    if Region.wanted o (yielded ops a.tmps) = true then Oper.wp Try.prog o a w K Q else E := by
  obtain ⟨v', w', hr, ho', ha⟩ := runT o.type hb hr hl
  rw [if_pos hw]
  unfold Oper.wp execOp
  simp only [ho, resolve, invoke, builtin, Sem.run_bind, Sem.run_pure, Result.andThen_ok, List.map_toArray, List.map_cons, List.map_nil, hs, hx, hr]
  exact h v' w' ho' ha

theorem RdT.lit (w : World) (ts : List (List UInt8)) (t : TypeId) : RdT (w.alloc (.cells (ts.map strV).toArray t)) (.slice (some ⟨w.heap.size, 0, none⟩) ts.length ts.length) ts := by
  refine ⟨_, _, rfl, Nat.le_refl _, (fun h => by cases h), fun _ => ⟨_, _, rfl, fun i hi => ?_⟩⟩
  have h : (w.alloc (.cells (ts.map strV).toArray t)).heap[w.heap.size]? = some (.cells (ts.map strV).toArray t) := hp_new rfl
  rw [cell_of_row _ _ (0 + i) _ _ (0, 0) h]
  simp [hi]
end Go.Proofs.Ytkfohickmdkplaa

namespace Go.Proofs.Ytkfohickmdkplaa
open Go.RowKit Go.Proofs.Leb Go.Proofs.Own Go.Proofs.Cur
set_option maxRecDepth 100000
set_option maxHeartbeats 4000000

/-- where the place and the error are laid: what stays so -/
structure SV (w : World) (C Bc Bp Be : Nat) (v : Value) (bs : List UInt8) (p : Nat) (lim : Int) (er : Nat) (w' : World) : Prop where
  up : Upd (fun k => k = Bp ∨ k = Be) w w'
  cur : Cur w' C v bs p lim er
  bc : One1 w' Bc (.pointer (some ⟨C, 0, none⟩))

theorem SV.new {w a b : World} {C Bc Bp Be : Nat} {v : Value} {bs : List UInt8} {p : Nat} {lim : Int} {er : Nat} (h : SV w C Bc Bp Be v bs p lim er a) (hn : New a b) : SV w C Bc Bp Be v bs p lim er b :=
  ⟨h.up.thenNew hn, h.cur.new hn, h.bc.new hn⟩
theorem SV.put {w a : World} {C Bc Bp Be : Nat} {v : Value} {bs : List UInt8} {p : Nat} {lim : Int} {er : Nat} (h : SV w C Bc Bp Be v bs p lim er a) (g : Nat) (hg : g = Bp ∨ g = Be) (h1 : g ≠ C) (h2 : g ≠ Bc) (h3 : bs ≠ [] → v.ownBlock ≠ some g) (u : Value) :
    SV w C Bc Bp Be v bs p lim er (a.setCell ⟨g, 0, none⟩ u) :=
  ⟨h.up.trans (updC _ g 0 u) (fun _ _ h => by rw [h]; exact hg), h.cur.upd (updC _ g 0 u) (by omega) (fun hb k hk hkg => h3 hb (by rw [hk, hkg])), h.bc.other (by simp; omega)⟩

theorem assertNil (w : World) : (Instr.typeAssert .nilIface 20 56 true).run Try.prog w = .ok (.tuple #[.agg #[.pointer none], .bool false]) w := by kernel_rfl
theorem assertGave (C : Nat) (w : World) : (Instr.typeAssert (gave C) 20 56 true).run Try.prog w = .ok (.tuple #[.agg #[.pointer (some ⟨C, 0, none⟩)], .bool true]) w := by kernel_rfl

theorem ptrNeq (C : Nat) (w : World) : (binOp .neq 29 (.pointer (some ⟨C, 0, none⟩)) (.pointer (some ⟨C, 0, none⟩))).run Try.prog w = .ok (.bool false) w := by
  have hj : ∃ j, Try.prog.info? 54 = some j := by
    have h : (Try.prog.info? 54).map (·.size) = some 4 := by kernel_rfl
    cases hq : Try.prog.info? 54 with
    | none => simp [hq] at h
    | some j => exact ⟨j, rfl⟩
  obtain ⟨j, hj⟩ := hj
  exact Lib.run_neq_ptr_same (P := Try.prog) w ⟨C, 0, none⟩ Try.underlying29 hj

/-- the end of what is deferred, in a world that returns or was recovered -/
def PostT (c₀ : Frame) (cs : List Frame) (cs' : List Frame) (R : Ending → FrameMode → World → Prop) (e : Exit) (a : Act) (w : World) : Prop := bodyPostS Try.prog Try.f16 c₀ cs R e a cs' w

def TryPost (w : World) (C Bc Bp Be : Nat) (v : Value) (bs : List UInt8) (p : Nat) (lim : Int) (er : Nat) (m : FrameMode) (e : Ending) (u' : FrameMode) (w' : World) : Prop :=
  e = .returned (.tuple #[]) ∧ u' = m ∧ SV w C Bc Bp Be v bs p lim er w' ∧ One1 w' Bp (.int .i64 p) ∧ One1 w' Be (.int .i64 er)

theorem Try1_ret (C Bc Bp Be : Nat) (v : Value) (bs : List UInt8) (p : Nat) (lim : Int) (er : Nat) (x y : Value) (w : World) (hs : SV w C Bc Bp Be v bs p lim er w) (hp : One1 w Bp x) (he : One1 w Be y)
    (d1 : Bp ≠ Be) (d2 : Bp ≠ C) (d3 : Be ≠ C) (d4 : Bp ≠ Bc) (d5 : Be ≠ Bc) (d6 : bs ≠ [] → v.ownBlock ≠ some Bp) (d7 : bs ≠ [] → v.ownBlock ≠ some Be) :
    CallsD Try.prog 16 #[.pointer (some ⟨Bc, 0, none⟩), .pointer (some ⟨Bp, 0, none⟩), .pointer (some ⟨Be, 0, none⟩)] .returning w (TryPost w C Bc Bp Be v bs p lim er .returning) := by
  refine callsD_of_wpS Try.func16 rfl fun c₀ cs hu => ?_
  simp only [Try.ntmps16, List.size_toArray, List.length_cons, List.length_nil, Nat.reduceAdd, Nat.reduceSub, Array.replicate_succ, Array.replicate_zero, List.push_toArray, List.append_toArray, List.nil_append, List.cons_append]
  apply wpS_seq
  apply wpS_region
  simp [wpOpsS, go_sem, recoverD, hu, Exit.thenS]
  refine wpS_of_wp (show Code.wp _ _ (PostT c₀ cs _ (TryPost w C Bc Bp Be v bs p lim er .returning)) _ _ from ?_)
  have ha := assertNil
  go_wp2_with fail
  have hs1 := hs.new ((Upd.refl (fun _ => False) w).alloc (.cells #[.pointer none] 56))
  have hp1 := hp.push (.cells #[.pointer none] 56)
  have he1 := he.push (.cells #[.pointer none] 56)
  generalize w.alloc (.cells #[.pointer none] 56) = w1 at *
  have hn := hs1.new ((Upd.refl _ _).drew)
  have hp := hp1.drew
  have he := he1.drew
  clear hp1 he1 hs1 ha hs
  refine wp_region_noPanic ?_
  refine wp_region_held_drew (S := (SV w C Bc Bp Be v bs p lim er)) (by kernel_rfl) (by first | exact hn | exact (Upd.refl _ _).drew | exact Upd.drew (by assumption)) (fun hn => ?_)
  generalize w1.drew = wd at *
  refine wpAnyH_take (i := 0) (oi := { dst := some 25, op := Op.load 29 (Operand.tmp 0), type := 29, pos := "cursor.go:37", after := #[], guard := none }) (v := ?v25x1) rfl (by kernel_rfl) (by kernel_rfl) (by kernel_rfl) (fun _ _ _ h => h) (Or.inl ⟨by rfl, ?y25x1⟩) hn ?r25x1
  case y25x1 => (intro wS hS; have c := hS.bc.c; (try go_simp); (try with_reducible rfl))
  try simp only [Act.put, List.setIfInBounds_toArray, List.set_cons_zero, List.set_cons_succ]
  refine wpAnyH_take (i := 1) (oi := { dst := some 26, op := Op.nilCheck (Operand.tmp 25), type := 0, pos := "cursor.go:37", after := #[{ on := 0, ground := Ground.data }], guard := none }) (v := ?v25x2) rfl (by kernel_rfl) (by kernel_rfl) (by kernel_rfl) (fun _ _ _ h => h) (Or.inl ⟨by rfl, ?y25x2⟩) hn ?r25x2
  case y25x2 => (intro wS hS; (try go_simp); (try with_reducible rfl))
  try simp only [Act.put, List.setIfInBounds_toArray, List.set_cons_zero, List.set_cons_succ]
  refine wpAnyH_take (i := 2) (oi := { dst := some 27, op := Op.fieldAddr 54 (Operand.tmp 26) 1, type := 0, pos := "cursor.go:37", after := #[{ on := 1, ground := Ground.data }], guard := none }) (v := ?v25x3) rfl (by kernel_rfl) (by kernel_rfl) (by kernel_rfl) (fun _ _ _ h => h) (Or.inl ⟨by rfl, ?y25x3⟩) hn ?r25x3
  case y25x3 => (intro wS hS; (try go_simp); (try with_reducible rfl))
  try simp only [Act.put, List.setIfInBounds_toArray, List.set_cons_zero, List.set_cons_succ]
  refine wpAnyH_take (i := 3) (oi := { dst := some 28, op := Op.load 3 (Operand.tmp 27), type := 3, pos := "cursor.go:37", after := #[{ on := 2, ground := Ground.data }], guard := none }) (v := ?v25x4) rfl (by kernel_rfl) (by kernel_rfl) (by kernel_rfl) (fun _ _ _ h => h) (Or.inl ⟨by rfl, ?y25x4⟩) hn ?r25x4
  case y25x4 => (intro wS hS; have c := hS.cur.c1; (try go_simp); (try with_reducible rfl))
  try simp only [Act.put, List.setIfInBounds_toArray, List.set_cons_zero, List.set_cons_succ]
  refine wpAnyH_take (i := 4) (oi := { dst := some 29, op := Op.load 29 (Operand.tmp 0), type := 29, pos := "cursor.go:37", after := #[], guard := none }) (v := ?v25x5) rfl (by kernel_rfl) (by kernel_rfl) (by kernel_rfl) (fun _ _ _ h => h) (Or.inl ⟨by rfl, ?y25x5⟩) hn ?r25x5
  case y25x5 => (intro wS hS; have c := hS.bc.c; (try go_simp); (try with_reducible rfl))
  try simp only [Act.put, List.setIfInBounds_toArray, List.set_cons_zero, List.set_cons_succ]
  refine wpAnyH_take (i := 5) (oi := { dst := some 30, op := Op.nilCheck (Operand.tmp 29), type := 0, pos := "cursor.go:37", after := #[{ on := 4, ground := Ground.data }], guard := none }) (v := ?v25x6) rfl (by kernel_rfl) (by kernel_rfl) (by kernel_rfl) (fun _ _ _ h => h) (Or.inl ⟨by rfl, ?y25x6⟩) hn ?r25x6
  case y25x6 => (intro wS hS; (try go_simp); (try with_reducible rfl))
  try simp only [Act.put, List.setIfInBounds_toArray, List.set_cons_zero, List.set_cons_succ]
  refine wpAnyH_take (i := 6) (oi := { dst := some 31, op := Op.fieldAddr 54 (Operand.tmp 30) 3, type := 0, pos := "cursor.go:37", after := #[{ on := 5, ground := Ground.data }], guard := none }) (v := ?v25x7) rfl (by kernel_rfl) (by kernel_rfl) (by kernel_rfl) (fun _ _ _ h => h) (Or.inl ⟨by rfl, ?y25x7⟩) hn ?r25x7
  case y25x7 => (intro wS hS; (try go_simp); (try with_reducible rfl))
  try simp only [Act.put, List.setIfInBounds_toArray, List.set_cons_zero, List.set_cons_succ]
  refine wpAnyH_take (i := 7) (oi := { dst := some 32, op := Op.load 26 (Operand.tmp 31), type := 26, pos := "cursor.go:37", after := #[{ on := 6, ground := Ground.data }], guard := none }) (v := ?v25x8) rfl (by kernel_rfl) (by kernel_rfl) (by kernel_rfl) (fun _ _ _ h => h) (Or.inl ⟨by rfl, ?y25x8⟩) hn ?r25x8
  case y25x8 => (intro wS hS; have c := hS.cur.c3; (try go_simp); (try with_reducible rfl))
  try simp only [Act.put, List.setIfInBounds_toArray, List.set_cons_zero, List.set_cons_succ]
  refine wpAnyH_ready (rs := [8]) (by kernel_rfl) (by simp) ?_
  refine AllReadyH.cons (o := { dst := none, op := Op.store 3 (Operand.tmp 1) (Operand.tmp 28), type := 0, pos := "cursor.go:37", after := #[{ on := 3, ground := Ground.data }, { on := 0, ground := Ground.phase }, { on := 1, ground := Ground.phase }, { on := 2, ground := Ground.phase }, { on := 3, ground := Ground.phase }, { on := 4, ground := Ground.phase }, { on := 5, ground := Ground.textOnly Departure.lateStoresUnsure }, { on := 6, ground := Ground.textOnly Departure.lateStoresUnsure }, { on := 7, ground := Ground.phase }], guard := none }) rfl (fun K hK => ?_) AllReadyH.nil
  have z := hp.c
  have f := hp.f
  go_simp
  have hn := hn.put Bp (.inl rfl) d2 d4 d6 (.int .i64 p)
  have he := he.other (p := ⟨Bp, 0, none⟩) (v := .int .i64 p) (by simp; omega)
  have hp := hp.put (v := .int .i64 p)
  clear z f
  refine hK.out _ _ (by first | exact hn | exact Upd.alloc hn _) (fun hn => ?_)
  clear hK K
  try simp only [Act.put, List.setIfInBounds_toArray, List.set_cons_zero, List.set_cons_succ]
  refine wpAnyH_ready (rs := [9]) (by kernel_rfl) (by simp) ?_
  refine AllReadyH.cons (o := { dst := none, op := Op.store 26 (Operand.tmp 2) (Operand.tmp 32), type := 0, pos := "cursor.go:37", after := #[{ on := 7, ground := Ground.data }, { on := 8, ground := Ground.chain }, { on := 0, ground := Ground.phase }, { on := 1, ground := Ground.phase }, { on := 2, ground := Ground.phase }, { on := 3, ground := Ground.phase }, { on := 4, ground := Ground.phase }, { on := 5, ground := Ground.phase }, { on := 6, ground := Ground.phase }, { on := 7, ground := Ground.phase }, { on := 8, ground := Ground.phase }], guard := none }) rfl (fun K hK => ?_) AllReadyH.nil
  have z := he.c
  have f := he.f
  go_simp
  have hn := hn.put Be (.inr rfl) d3 d5 d7 (.int .i64 er)
  have hp := hp.other (p := ⟨Be, 0, none⟩) (v := .int .i64 er) (by simp; omega)
  have he := he.put (v := .int .i64 er)
  clear z f
  refine hK.out _ _ (by first | exact hn | exact Upd.alloc hn _) (fun hn => ?_)
  clear hK K
  try simp only [Act.put, List.setIfInBounds_toArray, List.set_cons_zero, List.set_cons_succ]
  refine wpAnyH_done (by kernel_rfl) ?_ _
  refine NoPanic.normal ?_
  go_wp2_with fail
  refine ⟨rfl, _, rfl, _, results_none rfl _ _ _, rfl, (by first | exact hu | rfl), hn, hp, he⟩
theorem Try1_gave (C Bc Bp Be : Nat) (v : Value) (bs : List UInt8) (p : Nat) (lim : Int) (er : Nat) (x y : Value) (w : World) (hs : SV w C Bc Bp Be v bs p lim er w) (hp : One1 w Bp x) (he : One1 w Be y)
    (d1 : Bp ≠ Be) (d2 : Bp ≠ C) (d3 : Be ≠ C) (d4 : Bp ≠ Bc) (d5 : Be ≠ Bc) (d6 : bs ≠ [] → v.ownBlock ≠ some Bp) (d7 : bs ≠ [] → v.ownBlock ≠ some Be) :
    CallsD Try.prog 16 #[.pointer (some ⟨Bc, 0, none⟩), .pointer (some ⟨Bp, 0, none⟩), .pointer (some ⟨Be, 0, none⟩)] (.panicking [{ v := gave C, recovered := false }]) w (TryPost w C Bc Bp Be v bs p lim er (.panicking [{ v := gave C, recovered := true }])) := by
  refine callsD_of_wpS Try.func16 rfl fun c₀ cs hu => ?_
  simp only [Try.ntmps16, List.size_toArray, List.length_cons, List.length_nil, Nat.reduceAdd, Nat.reduceSub, Array.replicate_succ, Array.replicate_zero, List.push_toArray, List.append_toArray, List.nil_append, List.cons_append]
  apply wpS_seq
  apply wpS_region
  simp [wpOpsS, go_sem, recoverD, hu, Exit.thenS]
  refine wpS_of_wp (show Code.wp _ _ (PostT c₀ cs _ (TryPost w C Bc Bp Be v bs p lim er (.panicking [{ v := gave C, recovered := true }]))) _ _ from ?_)
  have ha := assertGave C
  unfold gave at ha ⊢
  have hpn := ptrNeq C
  have cb := (hs.bc.push (.cells #[.pointer (some ⟨C, 0, none⟩)] 56)).c
  go_wp2_with fail
  clear cb hpn
  have hs1 := hs.new ((Upd.refl (fun _ => False) w).alloc (.cells #[.pointer (some ⟨C, 0, none⟩)] 56))
  have hp1 := hp.push (.cells #[.pointer (some ⟨C, 0, none⟩)] 56)
  have he1 := he.push (.cells #[.pointer (some ⟨C, 0, none⟩)] 56)
  generalize w.alloc (.cells #[.pointer (some ⟨C, 0, none⟩)] 56) = w1 at *
  have hn := hs1.new ((Upd.refl _ _).drew)
  have hp := hp1.drew
  have he := he1.drew
  clear hp1 he1 hs1 ha hs
  refine wp_region_noPanic ?_
  refine wp_region_held_drew (S := (SV w C Bc Bp Be v bs p lim er)) (by kernel_rfl) (by first | exact hn | exact (Upd.refl _ _).drew | exact Upd.drew (by assumption)) (fun hn => ?_)
  generalize w1.drew = wd at *
  refine wpAnyH_take (i := 0) (oi := { dst := some 25, op := Op.load 29 (Operand.tmp 0), type := 29, pos := "cursor.go:37", after := #[], guard := none }) (v := ?v26x1) rfl (by kernel_rfl) (by kernel_rfl) (by kernel_rfl) (fun _ _ _ h => h) (Or.inl ⟨by rfl, ?y26x1⟩) hn ?r26x1
  case y26x1 => (intro wS hS; have c := hS.bc.c; (try go_simp); (try with_reducible rfl))
  try simp only [Act.put, List.setIfInBounds_toArray, List.set_cons_zero, List.set_cons_succ]
  refine wpAnyH_take (i := 1) (oi := { dst := some 26, op := Op.nilCheck (Operand.tmp 25), type := 0, pos := "cursor.go:37", after := #[{ on := 0, ground := Ground.data }], guard := none }) (v := ?v26x2) rfl (by kernel_rfl) (by kernel_rfl) (by kernel_rfl) (fun _ _ _ h => h) (Or.inl ⟨by rfl, ?y26x2⟩) hn ?r26x2
  case y26x2 => (intro wS hS; (try go_simp); (try with_reducible rfl))
  try simp only [Act.put, List.setIfInBounds_toArray, List.set_cons_zero, List.set_cons_succ]
  refine wpAnyH_take (i := 2) (oi := { dst := some 27, op := Op.fieldAddr 54 (Operand.tmp 26) 1, type := 0, pos := "cursor.go:37", after := #[{ on := 1, ground := Ground.data }], guard := none }) (v := ?v26x3) rfl (by kernel_rfl) (by kernel_rfl) (by kernel_rfl) (fun _ _ _ h => h) (Or.inl ⟨by rfl, ?y26x3⟩) hn ?r26x3
  case y26x3 => (intro wS hS; (try go_simp); (try with_reducible rfl))
  try simp only [Act.put, List.setIfInBounds_toArray, List.set_cons_zero, List.set_cons_succ]
  refine wpAnyH_take (i := 3) (oi := { dst := some 28, op := Op.load 3 (Operand.tmp 27), type := 3, pos := "cursor.go:37", after := #[{ on := 2, ground := Ground.data }], guard := none }) (v := ?v26x4) rfl (by kernel_rfl) (by kernel_rfl) (by kernel_rfl) (fun _ _ _ h => h) (Or.inl ⟨by rfl, ?y26x4⟩) hn ?r26x4
  case y26x4 => (intro wS hS; have c := hS.cur.c1; (try go_simp); (try with_reducible rfl))
  try simp only [Act.put, List.setIfInBounds_toArray, List.set_cons_zero, List.set_cons_succ]
  refine wpAnyH_take (i := 4) (oi := { dst := some 29, op := Op.load 29 (Operand.tmp 0), type := 29, pos := "cursor.go:37", after := #[], guard := none }) (v := ?v26x5) rfl (by kernel_rfl) (by kernel_rfl) (by kernel_rfl) (fun _ _ _ h => h) (Or.inl ⟨by rfl, ?y26x5⟩) hn ?r26x5
  case y26x5 => (intro wS hS; have c := hS.bc.c; (try go_simp); (try with_reducible rfl))
  try simp only [Act.put, List.setIfInBounds_toArray, List.set_cons_zero, List.set_cons_succ]
  refine wpAnyH_take (i := 5) (oi := { dst := some 30, op := Op.nilCheck (Operand.tmp 29), type := 0, pos := "cursor.go:37", after := #[{ on := 4, ground := Ground.data }], guard := none }) (v := ?v26x6) rfl (by kernel_rfl) (by kernel_rfl) (by kernel_rfl) (fun _ _ _ h => h) (Or.inl ⟨by rfl, ?y26x6⟩) hn ?r26x6
  case y26x6 => (intro wS hS; (try go_simp); (try with_reducible rfl))
  try simp only [Act.put, List.setIfInBounds_toArray, List.set_cons_zero, List.set_cons_succ]
  refine wpAnyH_take (i := 6) (oi := { dst := some 31, op := Op.fieldAddr 54 (Operand.tmp 30) 3, type := 0, pos := "cursor.go:37", after := #[{ on := 5, ground := Ground.data }], guard := none }) (v := ?v26x7) rfl (by kernel_rfl) (by kernel_rfl) (by kernel_rfl) (fun _ _ _ h => h) (Or.inl ⟨by rfl, ?y26x7⟩) hn ?r26x7
  case y26x7 => (intro wS hS; (try go_simp); (try with_reducible rfl))
  try simp only [Act.put, List.setIfInBounds_toArray, List.set_cons_zero, List.set_cons_succ]
  refine wpAnyH_take (i := 7) (oi := { dst := some 32, op := Op.load 26 (Operand.tmp 31), type := 26, pos := "cursor.go:37", after := #[{ on := 6, ground := Ground.data }], guard := none }) (v := ?v26x8) rfl (by kernel_rfl) (by kernel_rfl) (by kernel_rfl) (fun _ _ _ h => h) (Or.inl ⟨by rfl, ?y26x8⟩) hn ?r26x8
  case y26x8 => (intro wS hS; have c := hS.cur.c3; (try go_simp); (try with_reducible rfl))
  try simp only [Act.put, List.setIfInBounds_toArray, List.set_cons_zero, List.set_cons_succ]
  refine wpAnyH_ready (rs := [8]) (by kernel_rfl) (by simp) ?_
  refine AllReadyH.cons (o := { dst := none, op := Op.store 3 (Operand.tmp 1) (Operand.tmp 28), type := 0, pos := "cursor.go:37", after := #[{ on := 3, ground := Ground.data }, { on := 0, ground := Ground.phase }, { on := 1, ground := Ground.phase }, { on := 2, ground := Ground.phase }, { on := 3, ground := Ground.phase }, { on := 4, ground := Ground.phase }, { on := 5, ground := Ground.textOnly Departure.lateStoresUnsure }, { on := 6, ground := Ground.textOnly Departure.lateStoresUnsure }, { on := 7, ground := Ground.phase }], guard := none }) rfl (fun K hK => ?_) AllReadyH.nil
  have z := hp.c
  have f := hp.f
  go_simp
  have hn := hn.put Bp (.inl rfl) d2 d4 d6 (.int .i64 p)
  have he := he.other (p := ⟨Bp, 0, none⟩) (v := .int .i64 p) (by simp; omega)
  have hp := hp.put (v := .int .i64 p)
  clear z f
  refine hK.out _ _ (by first | exact hn | exact Upd.alloc hn _) (fun hn => ?_)
  clear hK K
  try simp only [Act.put, List.setIfInBounds_toArray, List.set_cons_zero, List.set_cons_succ]
  refine wpAnyH_ready (rs := [9]) (by kernel_rfl) (by simp) ?_
  refine AllReadyH.cons (o := { dst := none, op := Op.store 26 (Operand.tmp 2) (Operand.tmp 32), type := 0, pos := "cursor.go:37", after := #[{ on := 7, ground := Ground.data }, { on := 8, ground := Ground.chain }, { on := 0, ground := Ground.phase }, { on := 1, ground := Ground.phase }, { on := 2, ground := Ground.phase }, { on := 3, ground := Ground.phase }, { on := 4, ground := Ground.phase }, { on := 5, ground := Ground.phase }, { on := 6, ground := Ground.phase }, { on := 7, ground := Ground.phase }, { on := 8, ground := Ground.phase }], guard := none }) rfl (fun K hK => ?_) AllReadyH.nil
  have z := he.c
  have f := he.f
  go_simp
  have hn := hn.put Be (.inr rfl) d3 d5 d7 (.int .i64 er)
  have hp := hp.other (p := ⟨Be, 0, none⟩) (v := .int .i64 er) (by simp; omega)
  have he := he.put (v := .int .i64 er)
  clear z f
  refine hK.out _ _ (by first | exact hn | exact Upd.alloc hn _) (fun hn => ?_)
  clear hK K
  try simp only [Act.put, List.setIfInBounds_toArray, List.set_cons_zero, List.set_cons_succ]
  refine wpAnyH_done (by kernel_rfl) ?_ _
  refine NoPanic.normal ?_
  go_wp2_with fail
  refine ⟨rfl, _, rfl, _, results_none rfl _ _ _, rfl, (by first | exact hu | rfl), hn, hp, he⟩
end Go.Proofs.Ytkfohickmdkplaa

namespace Go.Proofs.Ytkfohickmdkplaa
open Go.RowKit Go.Proofs.Leb Go.Proofs.Own Go.Proofs.Cur
set_option maxRecDepth 100000
set_option maxHeartbeats 4000000

def placeO (o : Out Unit) : Nat := match o with | .ok _ q => q | .up q _ => q
def errO (o : Out Unit) : Nat := match o with | .ok _ _ => 0 | .up _ e => e

theorem Did.cur {C : Nat} {v : Value} {bs : List UInt8} {lim : Int} {o : Out Unit} {w : World} {e : Ending} (h : Did C v bs lim o w e) : Cur w C v bs (placeO o) lim (errO o) := by
  cases o with
  | ok _ q => exact h.2
  | up q er => exact h.2

theorem Try_any (v : Value) (bs : List UInt8) (w : World) (hr : Rd w v bs) (_ : bs.length ≤ 1000000000) (G : Nat) (cap : Array Value) (hG : Enters G)
    (S : Nat → Prop) (hS : ∀ k, S k → k < w.heap.size) (hSv : bs ≠ [] → ∀ k, v.ownBlock = some k → ¬ S k) (o : Out Unit) (K : World → Prop) (hK : ∀ a b, Upd (fun k => w.heap.size ≤ k ∧ k ≤ w.heap.size + 3) a b → K a → K b)
    (hdo : ∀ w1, New w w1 → w1.heap.size = w.heap.size + 4 → Cur w1 (w.heap.size + 1 + 1) v bs 0 (-1) 0 →
      Calls Try.prog G (#[.pointer (some ⟨w.heap.size + 1 + 1, 0, none⟩)] ++ cap) w1 fun e w2 => Upd (fun k => k = w.heap.size + 1 + 1 ∨ S k) w1 w2 ∧ Did (w.heap.size + 1 + 1) v bs (-1) o w2 e ∧ K w2) :
    Calls Try.prog 6 #[v, .func (.func G) #[] cap] w
      (fun e w' => e = .returned (.tuple #[.int .i64 (placeO o), .int .i64 (errO o)]) ∧ Upd S w w' ∧ K w') := by
  obtain ⟨av, cv, rfl⟩ := hr.shape
  have HG := hid hG
  have HDO := hid hdo
  have HK := hid hK
  have HSS := hid hS
  have HSV := hid hSv
  have HR := hid hr
  have HT := hid hr.there
  have hmf : ∀ (fn : Fn) (first cap : Array Value) (w : World), (Instr.makeFunc fn first cap).run Try.prog w = .ok (.func fn first cap) w := fun _ _ _ _ => rfl
  clear hG hdo hK hS hSv hr
  go_enter_defers Try.func6, Try.ntmps6
  go_wp2_with fail
  have hn1 : New w ((((w.alloc (.cells #[.int .i64 0] 3)).alloc (.cells #[.int .i64 0] 26)).alloc (.cells #[.slice av bs.length cv, .int .i64 0, .int .i64 (-1), .int .i64 0] 54)).alloc (.cells #[.pointer (some ⟨w.heap.size + 1 + 1, 0, none⟩)] 29)) := (((((Upd.refl _ _).alloc _).alloc _).alloc _).alloc _)
  have hp1 : One1 ((((w.alloc (.cells #[.int .i64 0] 3)).alloc (.cells #[.int .i64 0] 26)).alloc (.cells #[.slice av bs.length cv, .int .i64 0, .int .i64 (-1), .int .i64 0] 54)).alloc (.cells #[.pointer (some ⟨w.heap.size + 1 + 1, 0, none⟩)] 29)) w.heap.size (.int .i64 0) := (((One1.mk rfl).push _).push _).push _
  have he1 : One1 ((((w.alloc (.cells #[.int .i64 0] 3)).alloc (.cells #[.int .i64 0] 26)).alloc (.cells #[.slice av bs.length cv, .int .i64 0, .int .i64 (-1), .int .i64 0] 54)).alloc (.cells #[.pointer (some ⟨w.heap.size + 1 + 1, 0, none⟩)] 29)) (w.heap.size + 1) (.int .i64 0) := ((One1.mk (by simp)).push _).push _
  have hc1 : One1 ((((w.alloc (.cells #[.int .i64 0] 3)).alloc (.cells #[.int .i64 0] 26)).alloc (.cells #[.slice av bs.length cv, .int .i64 0, .int .i64 (-1), .int .i64 0] 54)).alloc (.cells #[.pointer (some ⟨w.heap.size + 1 + 1, 0, none⟩)] 29)) (w.heap.size + 1 + 1 + 1) (.pointer (some ⟨w.heap.size + 1 + 1, 0, none⟩)) := One1.mk (by simp)
  have hb1 : ((((w.alloc (.cells #[.int .i64 0] 3)).alloc (.cells #[.int .i64 0] 26)).alloc (.cells #[.slice av bs.length cv, .int .i64 0, .int .i64 (-1), .int .i64 0] 54)).alloc (.cells #[.pointer (some ⟨w.heap.size + 1 + 1, 0, none⟩)] 29)).heap[w.heap.size + 1 + 1]? = some (.cells #[.slice av bs.length cv, .int .i64 0, .int .i64 (-1), .int .i64 0] 54) :=
    hp_old (by simp) (hp_new (by simp))
  have hz1 : ((((w.alloc (.cells #[.int .i64 0] 3)).alloc (.cells #[.int .i64 0] 26)).alloc (.cells #[.slice av bs.length cv, .int .i64 0, .int .i64 (-1), .int .i64 0] 54)).alloc (.cells #[.pointer (some ⟨w.heap.size + 1 + 1, 0, none⟩)] 29)).heap.size = w.heap.size + 4 := by simp
  generalize ((((w.alloc (.cells #[.int .i64 0] 3)).alloc (.cells #[.int .i64 0] 26)).alloc (.cells #[.slice av bs.length cv, .int .i64 0, .int .i64 (-1), .int .i64 0] 54)).alloc (.cells #[.pointer (some ⟨w.heap.size + 1 + 1, 0, none⟩)] 29)) = w1 at *
  have hcur : Cur w1 (w.heap.size + 1 + 1) (.slice av bs.length cv) bs 0 (-1) 0 := ⟨hb1, HR.out.new hn1, fun hb e => by have := HT.out hb _ e; omega⟩
  have hd7 : ∀ k, w.heap.size ≤ k → bs ≠ [] → (Value.slice av bs.length cv).ownBlock ≠ some k := fun k hk hb e => by have := HT.out hb _ e; omega
  have HD7 := hid hd7
  have HC := hid (HDO.out w1 hn1 hz1 hcur)
  have HP1 := hid hp1
  have HE1 := hid he1
  have HC1 := hid hc1
  have HN1 := hid hn1
  have HZ1 := hid hz1
  clear hn1 hp1 he1 hc1 hb1 hz1 hcur hd7
  refine upon_callv HG.out HC.out ?_
  rintro e w2 ⟨hu2, hd2, hk2⟩
  have notS : ∀ k, w.heap.size ≤ k → k ≠ w.heap.size + 1 + 1 → ¬ (k = w.heap.size + 1 + 1 ∨ S k) := by
    intro k h1 h2 hh
    rcases hh with hh | hh
    · exact h2 hh
    · have := HSS.out _ hh
      omega
  have hp2 := HP1.out.upd hu2 (notS _ (by omega) (by omega))
  have he2 := HE1.out.upd hu2 (notS _ (by omega) (by omega))
  have hc2 := HC1.out.upd hu2 (notS _ (by omega) (by omega))
  have U2 : Hid (Upd S w w2) := (HN1.out.upd (S := S)).trans (hu2.mono (T := fun k => k = w.heap.size + 1 + 1 ∨ S k) (fun _ _ h => h)) (fun k hk hh => by
    rcases hh with hh | hh
    · omega
    · exact hh)
  have hcur := hd2.cur
  have K2 := hid hk2
  have HP2 := hid hp2
  have HE2 := hid he2
  have HC2 := hid hc2
  have HCUR := hid hcur
  clear notS hp2 he2 hcur hk2 hu2
  have HSV2 : Hid (SV w2 (w.heap.size + 1 + 1) (w.heap.size + 1 + 1 + 1) w.heap.size (w.heap.size + 1) (.slice av bs.length cv) bs (placeO o) (-1) (errO o) w2) := ⟨Upd.refl _ _, HCUR.out, hc2⟩
  have hcc := hc2.c
  clear hc2
  have fin : ∀ W m e u' w', Upd (fun k => k = w.heap.size ∨ k = w.heap.size + 1) w2 W → TryPost W (w.heap.size + 1 + 1) (w.heap.size + 1 + 1 + 1) w.heap.size (w.heap.size + 1) (.slice av bs.length cv) bs (placeO o) (-1) (errO o) m e u' w' → Upd S w w' ∧ K w' := by
    rintro W m e u' w' hW ⟨-, -, hsv, -, -⟩
    have hall := hW.trans hsv.up (fun _ _ h => h)
    refine ⟨U2.out.trans hall (fun k hk hh => by omega), HK.out _ _ (hall.mono (fun k _ hh => by omega)) K2.out⟩
  have FIN := hid fin
  clear fin
  cases o with
  | up q er =>
    obtain ⟨rfl, -⟩ := hd2
    have hsv : SV w2 (w.heap.size + 1 + 1) (w.heap.size + 1 + 1 + 1) w.heap.size (w.heap.size + 1) (.slice av bs.length cv) bs q (-1) er w2 := HSV2.out
    have HSV3 := hid hsv
    clear hsv
    go_wp2_with fail
    refine leaves_cons (f := 16) (args := #[.pointer (some ⟨w.heap.size + 1 + 1 + 1, 0, none⟩), .pointer (some ⟨w.heap.size, 0, none⟩), .pointer (some ⟨w.heap.size + 1, 0, none⟩)]) (by simp) (by simp [go_sem]) ?_
    refine (Try1_gave (w.heap.size + 1 + 1) (w.heap.size + 1 + 1 + 1) w.heap.size (w.heap.size + 1) (.slice av bs.length cv) bs q (-1) er _ _ w2 HSV3.out HP2.out HE2.out (by omega) (by omega) (by omega) (by omega) (by omega) (HD7.out _ (by omega)) (HD7.out _ (by omega))).mono ?_
    rintro e u' w'' hT
    have hF := FIN.out _ _ _ _ _ (Upd.refl _ _) hT
    obtain ⟨rfl, rfl, -, hp, he⟩ := hT
    have z1 := hp.c
    have z2 := he.c
    have HFF := hid hF
    clear hF
    simp [Leaves, settle, results, Try.results6, go_sem, z1, z2, placeO, errO]
    exact HFF.out
  | ok _ q =>
    obtain ⟨rfl, -⟩ := hd2
    have hsv : SV w2 (w.heap.size + 1 + 1) (w.heap.size + 1 + 1 + 1) w.heap.size (w.heap.size + 1) (.slice av bs.length cv) bs q (-1) 0 w2 := HSV2.out
    have HSV3 := hid hsv
    go_wp2_with fail
    have hn := hsv.new ((Upd.refl _ _).drew)
    have hp := HP2.out.drew
    have he := HE2.out.drew
    have d4 := HD7.out w.heap.size (by omega)
    have d5 := HD7.out (w.heap.size + 1) (by omega)
    clear hsv hcc
    refine wp_region_noPanic ?_
    refine wp_region_held_drew (S := (SV w2 (w.heap.size + 1 + 1) (w.heap.size + 1 + 1 + 1) w.heap.size (w.heap.size + 1) (.slice av bs.length cv) bs q (-1) 0)) (by kernel_rfl) (by first | exact hn | exact (Upd.refl _ _).drew | exact Upd.drew (by assumption)) (fun hn => ?_)
    generalize w2.drew = wd at *
    refine wpAnyH_take (i := 0) (oi := { dst := some 14, op := Op.load 29 (Operand.tmp 6), type := 29, pos := "cursor.go:40", after := #[], guard := none }) (v := ?v27x1) rfl (by kernel_rfl) (by kernel_rfl) (by kernel_rfl) (fun _ _ _ h => h) (Or.inl ⟨by rfl, ?y27x1⟩) hn ?r27x1
    case y27x1 => (intro wS hS; have c := hS.bc.c; (try go_simp); (try with_reducible rfl))
    try simp only [Act.put, List.setIfInBounds_toArray, List.set_cons_zero, List.set_cons_succ]
    refine wpAnyH_take (i := 1) (oi := { dst := some 15, op := Op.nilCheck (Operand.tmp 14), type := 0, pos := "cursor.go:40", after := #[{ on := 0, ground := Ground.data }], guard := none }) (v := ?v27x2) rfl (by kernel_rfl) (by kernel_rfl) (by kernel_rfl) (fun _ _ _ h => h) (Or.inl ⟨by rfl, ?y27x2⟩) hn ?r27x2
    case y27x2 => (intro wS hS; (try go_simp); (try with_reducible rfl))
    try simp only [Act.put, List.setIfInBounds_toArray, List.set_cons_zero, List.set_cons_succ]
    refine wpAnyH_take (i := 2) (oi := { dst := some 16, op := Op.fieldAddr 54 (Operand.tmp 15) 1, type := 0, pos := "cursor.go:40", after := #[{ on := 1, ground := Ground.data }], guard := none }) (v := ?v27x3) rfl (by kernel_rfl) (by kernel_rfl) (by kernel_rfl) (fun _ _ _ h => h) (Or.inl ⟨by rfl, ?y27x3⟩) hn ?r27x3
    case y27x3 => (intro wS hS; (try go_simp); (try with_reducible rfl))
    try simp only [Act.put, List.setIfInBounds_toArray, List.set_cons_zero, List.set_cons_succ]
    refine wpAnyH_take (i := 3) (oi := { dst := some 17, op := Op.load 3 (Operand.tmp 16), type := 3, pos := "cursor.go:40", after := #[{ on := 2, ground := Ground.data }], guard := none }) (v := ?v27x4) rfl (by kernel_rfl) (by kernel_rfl) (by kernel_rfl) (fun _ _ _ h => h) (Or.inl ⟨by rfl, ?y27x4⟩) hn ?r27x4
    case y27x4 => (intro wS hS; have c := hS.cur.c1; (try go_simp); (try with_reducible rfl))
    try simp only [Act.put, List.setIfInBounds_toArray, List.set_cons_zero, List.set_cons_succ]
    refine wpAnyH_take (i := 4) (oi := { dst := some 18, op := Op.load 29 (Operand.tmp 6), type := 29, pos := "cursor.go:40", after := #[], guard := none }) (v := ?v27x5) rfl (by kernel_rfl) (by kernel_rfl) (by kernel_rfl) (fun _ _ _ h => h) (Or.inl ⟨by rfl, ?y27x5⟩) hn ?r27x5
    case y27x5 => (intro wS hS; have c := hS.bc.c; (try go_simp); (try with_reducible rfl))
    try simp only [Act.put, List.setIfInBounds_toArray, List.set_cons_zero, List.set_cons_succ]
    refine wpAnyH_take (i := 5) (oi := { dst := some 19, op := Op.nilCheck (Operand.tmp 18), type := 0, pos := "cursor.go:40", after := #[{ on := 4, ground := Ground.data }], guard := none }) (v := ?v27x6) rfl (by kernel_rfl) (by kernel_rfl) (by kernel_rfl) (fun _ _ _ h => h) (Or.inl ⟨by rfl, ?y27x6⟩) hn ?r27x6
    case y27x6 => (intro wS hS; (try go_simp); (try with_reducible rfl))
    try simp only [Act.put, List.setIfInBounds_toArray, List.set_cons_zero, List.set_cons_succ]
    refine wpAnyH_take (i := 6) (oi := { dst := some 20, op := Op.fieldAddr 54 (Operand.tmp 19) 3, type := 0, pos := "cursor.go:40", after := #[{ on := 5, ground := Ground.data }], guard := none }) (v := ?v27x7) rfl (by kernel_rfl) (by kernel_rfl) (by kernel_rfl) (fun _ _ _ h => h) (Or.inl ⟨by rfl, ?y27x7⟩) hn ?r27x7
    case y27x7 => (intro wS hS; (try go_simp); (try with_reducible rfl))
    try simp only [Act.put, List.setIfInBounds_toArray, List.set_cons_zero, List.set_cons_succ]
    refine wpAnyH_take (i := 7) (oi := { dst := some 21, op := Op.load 26 (Operand.tmp 20), type := 26, pos := "cursor.go:40", after := #[{ on := 6, ground := Ground.data }], guard := none }) (v := ?v27x8) rfl (by kernel_rfl) (by kernel_rfl) (by kernel_rfl) (fun _ _ _ h => h) (Or.inl ⟨by rfl, ?y27x8⟩) hn ?r27x8
    case y27x8 => (intro wS hS; have c := hS.cur.c3; (try go_simp); (try with_reducible rfl))
    try simp only [Act.put, List.setIfInBounds_toArray, List.set_cons_zero, List.set_cons_succ]
    refine wpAnyH_ready (rs := [8]) (by kernel_rfl) (by simp) ?_
    refine AllReadyH.cons (o := { dst := none, op := Op.store 3 (Operand.tmp 4) (Operand.tmp 17), type := 0, pos := "cursor.go:40", after := #[{ on := 3, ground := Ground.data }, { on := 0, ground := Ground.phase }, { on := 1, ground := Ground.phase }, { on := 2, ground := Ground.phase }, { on := 3, ground := Ground.phase }, { on := 4, ground := Ground.textOnly Departure.lateStoresUnsure }, { on := 5, ground := Ground.textOnly Departure.lateStoresUnsure }, { on := 6, ground := Ground.textOnly Departure.lateStoresUnsure }, { on := 7, ground := Ground.textOnly Departure.lateStoresUnsure }], guard := none }) rfl (fun K hK => ?_) AllReadyH.nil
    have z := hp.c
    have f := hp.f
    go_simp
    have hn := hn.put w.heap.size (.inl rfl) (by omega) (by omega) d4 (.int .i64 q)
    have he := he.other (p := ⟨w.heap.size, 0, none⟩) (v := .int .i64 q) (by simp)
    have hp := hp.put (v := .int .i64 q)
    clear z f
    refine hK.out _ _ (by first | exact hn | exact Upd.alloc hn _) (fun hn => ?_)
    clear hK K
    try simp only [Act.put, List.setIfInBounds_toArray, List.set_cons_zero, List.set_cons_succ]
    refine wpAnyH_ready (rs := [9]) (by kernel_rfl) (by simp) ?_
    refine AllReadyH.cons (o := { dst := none, op := Op.store 26 (Operand.tmp 5) (Operand.tmp 21), type := 0, pos := "cursor.go:40", after := #[{ on := 7, ground := Ground.data }, { on := 8, ground := Ground.chain }, { on := 0, ground := Ground.phase }, { on := 1, ground := Ground.phase }, { on := 2, ground := Ground.phase }, { on := 3, ground := Ground.phase }, { on := 4, ground := Ground.phase }, { on := 5, ground := Ground.phase }, { on := 6, ground := Ground.phase }, { on := 7, ground := Ground.phase }, { on := 8, ground := Ground.phase }], guard := none }) rfl (fun K hK => ?_) AllReadyH.nil
    have z := he.c
    have f := he.f
    go_simp
    have hn := hn.put (w.heap.size + 1) (.inr rfl) (by omega) (by omega) d5 (.int .i64 0)
    have hp := hp.other (p := ⟨w.heap.size + 1, 0, none⟩) (v := .int .i64 0) (by simp)
    have he := he.put (v := .int .i64 0)
    clear z f
    refine hK.out _ _ (by first | exact hn | exact Upd.alloc hn _) (fun hn => ?_)
    clear hK K
    try simp only [Act.put, List.setIfInBounds_toArray, List.set_cons_zero, List.set_cons_succ]
    refine wpAnyH_done (by kernel_rfl) ?_ _
    refine NoPanic.normal ?_
    go_wp2_with fail
    refine leaves_cons (f := 16) (args := #[.pointer (some ⟨w.heap.size + 1 + 1 + 1, 0, none⟩), .pointer (some ⟨w.heap.size, 0, none⟩), .pointer (some ⟨w.heap.size + 1, 0, none⟩)]) (by simp) (by simp [go_sem]) ?_
    refine (Try1_ret (w.heap.size + 1 + 1) (w.heap.size + 1 + 1 + 1) w.heap.size (w.heap.size + 1) (.slice av bs.length cv) bs q (-1) 0 _ _ _ ⟨Upd.refl _ _, hn.cur, hn.bc⟩ hp he (by omega) (by omega) (by omega) (by omega) (by omega) (HD7.out _ (by omega)) (HD7.out _ (by omega))).mono ?_
    rintro e u' w'' hT
    have hF := FIN.out _ _ _ _ _ hn.up hT
    obtain ⟨rfl, rfl, -, hp, he⟩ := hT
    have z1 := hp.c
    have z2 := he.c
    have HFF := hid hF
    clear hF
    simp [Leaves, settle, results, Try.results6, go_sem, z1, z2, placeO, errO]
    exact HFF.out
end Go.Proofs.Ytkfohickmdkplaa
