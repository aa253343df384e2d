/-
  The document's reader: a number with a sign.
-/
import Derived.Test.YtkfohickmdkplaaJ31
import Derived.Test.YtkfohickmdkplaaJ39
import Derived.Test.YtkfohickmdkplaaJ42
import Derived.Test.YtkfohickmdkplaaJ29
import Derived.Deep.CutBlock
namespace Go.Proofs.Ytkfohickmdkplaa
open Go.RowKit Go.Proofs.Leb Go.Proofs.Own Go.Proofs.Cur
set_option maxRecDepth 100000
set_option maxHeartbeats 4000000

/-- still fine, or given up at q1 -/
def RS (w : World) (R : Nat) (B : ByteArray) (q : Nat) (lim : Int) (q1 : Nat) (b : Bool) : Prop := Rdr w R B q lim (if b then 0 else 2) (if b then 0 else q1)
def NeedP (w : World) (R : Nat) (B : ByteArray) (q : Nat) (lim : Int) (q1 : Nat) (b : Bool) (e : Ending) (w' : World) : Prop := e = .returned (.tuple #[]) ∧ RS w' R B q lim q1 b ∧ Upd (· = R) w w'
theorem rNeed_RS {w : World} {R : Nat} {B : ByteArray} {q : Nat} {lim : Int} {q1 : Nat} {b : Bool} (h : RS w R B q lim q1 b) (c : Bool) :
    Calls Try.prog 31 #[.pointer (some ⟨R, 0, none⟩), .bool c, .int .i64 q1] w (NeedP w R B q lim q1 (b && c)) := by
  cases b with
  | true =>
    refine (rNeed_any' h c q1).mono ?_
    rintro e w' ⟨he, h1, h2⟩
    exact ⟨he, by cases c <;> exact h1, h2⟩
  | false =>
    refine (rNeed_gone h (by decide) c q1).mono ?_
    rintro e w' ⟨he, rfl⟩
    exact ⟨he, h, Upd.refl _ _⟩

theorem RS.new {w w' : World} {R : Nat} {B : ByteArray} {q : Nat} {lim : Int} {q1 : Nat} {b : Bool} (h : RS w R B q lim q1 b) (hn : New w w') : RS w' R B q lim q1 b := Rdr.new h hn
theorem RS.c1 {w : World} {R : Nat} {B : ByteArray} {q : Nat} {lim : Int} {q1 : Nat} {b : Bool} (h : RS w R B q lim q1 b) : w.cell? ⟨R, 1, none⟩ = some (.int .i64 q) := Rdr.c1 h

/-- a digit of a number with a sign, as the document asks -/
theorem sopen_iff (mn mx : Int) {lim : Int} {q : Nat} (hq : lim = -1 ∨ (0 ≤ rest lim q ∧ rest lim q < 1099511627776)) (bits : Nat) (hbits : bits ≤ 64) (ds : List UInt8) (b : UInt8) (hb : ¬ b.toNat < 128) :
    mayS (fun r => hasR mn mx r) bits ds b (rest lim q) ↔ ∃ j, 1 ≤ j ∧ ds.length + j < (bits - 1) / 7 + 1 ∧ hasR mn mx (behD lim q j) := by
  have hneg : ∀ r, hasR mn mx r → 0 ≤ r := fun r h => by unfold hasR at h; split at h <;> omega
  unfold mayS comes
  rw [if_neg hb]
  constructor
  · rintro ⟨j, h1, h2, h3, h4, -⟩
    refine ⟨j, h1, by omega, ?_⟩
    rcases hq with rfl | hq
    · have e : behind (rest (-1) q) j = behD (-1) q j := by unfold behind behD rest; simp
      rw [← e]; exact h4
    · have hl : lim ≠ -1 := by rintro rfl; unfold rest at hq; simp at hq
      have e : behD lim q j = rest lim q - j := by unfold behD; rw [if_neg hl]
      have e2 : behind (rest lim q) j = rest lim q - j := by unfold behind; rw [if_pos hq.2]
      rw [e, ← e2]; exact h4
  · rintro ⟨j, h1, h2, h3⟩
    refine ⟨j, h1, by omega, ?_⟩
    rcases hq with rfl | hq
    · have e : behind (rest (-1) q) j = behD (-1) q j := by unfold behind behD rest; simp
      refine ⟨by unfold rest; simp; omega, by rw [e]; exact h3, .inl (by omega)⟩
    · have hl : lim ≠ -1 := by rintro rfl; unfold rest at hq; simp at hq
      have e : behD lim q j = rest lim q - j := by unfold behD; rw [if_neg hl]
      have e2 : behind (rest lim q) j = rest lim q - j := by unfold behind; rw [if_pos hq.2]
      rw [e] at h3
      exact ⟨by have := hneg _ h3; omega, by rw [e2]; exact h3, .inl (by omega)⟩
theorem sshut_iff (mn mx r : Int) (bits : Nat) (ds : List UInt8) (b : UInt8) (hb : b.toNat < 128) :
    mayS (fun r => hasR mn mx r) bits ds b r ↔ hasR mn mx r ∧ (ds.length < (bits - 1) / 7 ∨ alike b.toNat (bits - 7 * ds.length)) := by
  unfold mayS comes
  rw [if_pos hb]
  constructor
  · rintro ⟨h1, h2 | h2⟩
    · omega
    · exact ⟨h1, h2⟩
  · rintro ⟨h1, h2⟩; exact ⟨h1, .inr h2⟩
theorem alike_bits (x l : Nat) (hx : x < 128) (h1 : 1 ≤ l) (h7 : l ≤ 7) : alike x l ↔ ∀ j, l ≤ j → j < 7 → bit x j = bit x (l - 1) := by
  rw [← alike_ok, okS_bits x l hx h1 h7]

structure ZInv (R : Nat) (B : ByteArray) (lim mn mx : Int) (bits : Nat) (O : Out (List UInt8)) (w : World) (Bw : Nat) (ds : List UInt8) (v : Value) (k : Nat) (wr : World) : Prop where
  up : Upd (· = R) w wr
  bx : Blk wr Bw (.int .i64 mn) (.int .i64 mx) 44
  by' : Bytes wr v ds
  fr : ∀ g, v.ownBlock = some g → Bw < g
  st : (∃ q, Rdr wr R B q lim 0 0 ∧ Inv B.size lim q ∧ ds.length ≤ (bits - 1) / 7 ∧ k = (bits - 1) / 7 + 2 - ds.length ∧ numO B.data.toList lim (mayS (fun r => hasR mn mx r) bits) ((bits - 1) / 7 + 1 - ds.length) ds q = O) ∨
    (∃ p' er sp, er ≠ 0 ∧ Rdr wr R B p' lim er sp ∧ O = .up sp er ∧ k = (bits - 1) / 7 + 2 - ds.length ∧ ds.length ≤ (bits - 1) / 7 + 1)

structure SZ (a : World) (R Bw q : Nat) (mn mx : Int) (w' : World) : Prop where
  up : Upd (· = R) a w'
  c1 : w'.cell? ⟨R, 1, none⟩ = some (.int .i64 q)
  bx : w'.heap[Bw]? = some (.cells #[.int .i64 mn, .int .i64 mx] 44)
theorem SZ.upd {a b c : World} {R Bw q : Nat} {mn mx : Int} (h : SZ a R Bw q mn mx b) (hu : Upd (· = R) b c) (hne : Bw ≠ R) (h1 : c.cell? ⟨R, 1, none⟩ = some (.int .i64 q)) : SZ a R Bw q mn mx c :=
  ⟨h.up.trans hu (fun _ _ h => h), h1, (hu.block _ (Array.getElem?_eq_some_iff.1 h.bx).1 hne).trans h.bx⟩
theorem SZ.new {a b c : World} {R Bw q : Nat} {mn mx : Int} (h : SZ a R Bw q mn mx b) (hn : New b c) : SZ a R Bw q mn mx c :=
  ⟨h.up.thenNew hn, hn.cell h.c1 (fun h => h), (hn.block _ (Array.getElem?_eq_some_iff.1 h.bx).1 (fun h => h)).trans h.bx⟩
theorem infoZ : (Try.prog.info? 44).map (·.size) = some 2 := by kernel_rfl
/-- the bits above a last digit are alike, up to k -/
def Same (x lw k : Nat) : Prop := ∀ j, lw ≤ j → j < k → bit x j = bit x (lw - 1)
theorem Same.step {x lw k : Nat} (h : lw ≤ k) : Same x lw (k + 1) ↔ Same x lw k ∧ bit x k = bit x (lw - 1) := by
  constructor
  · exact fun g => ⟨fun j h1 h2 => g j h1 (by omega), g k h (by omega)⟩
  · rintro ⟨g1, g2⟩ j h1 h2
    rcases Nat.lt_or_ge j k with h3 | h3
    · exact g1 j h1 h3
    · obtain rfl : j = k := by omega
      exact g2

theorem mayS9' {S : Int → Prop} {bits : Nat} {ds : List UInt8} {x : UInt8} {r : Int} (hb : bits ≤ 64) (h : mayS S bits ds x r) (hx : x.toNat < 128) (hl : ds.length = 9) (hk : ds.length ≤ (bits - 1) / 7) :
    x.toNat = 0 ∨ x.toNat = 127 := by
  unfold mayS comes at h
  rw [if_pos hx] at h
  have hbits : bits = 64 := by omega
  subst hbits
  rcases h.2 with h | h | h
  · omega
  · omega
  · rw [hl] at h
    unfold alike at h
    simp only [show 64 - 7 * 9 - 1 = 0 by decide, Nat.pow_zero, Nat.div_one] at h
    exact h
theorem sint_bd {bs : List UInt8} {lim : Int} {S : Int → Prop} {bits p q : Nat} {ds : List UInt8} (hb : bits ≤ 64) (h : sintO bs lim S bits p = .ok ds q) :
    ∃ s x, ds.length = s + 1 ∧ s ≤ 9 ∧ ds[s]? = some x ∧ x.toNat < 128 ∧ sval (ds.drop s) = top x.toNat ∧ -9223372036854775808 ≤ sval ds ∧ sval ds < 9223372036854775808 := by
  unfold sintO at h
  obtain ⟨a, x, rfl, hx, hm, -, hl, -, -, -⟩ := numO_ok h
  simp only [List.length_nil] at hl
  have h9 : a.length ≤ 9 := by omega
  have hs := sext a x hx h9 (fun h9 => by
    have h8 : (bits - 1) / 7 = 9 := by omega
    exact mayS9' hb hm hx h9 (by omega))
  obtain ⟨W, hW⟩ : ∃ W, IntKind.u64.wrap ((vm (a ++ [x]) : Int) * 2 ^ (64 - 7 * (a.length + 1))) = W := ⟨_, rfl⟩
  rw [hW] at hs
  have hw : -9223372036854775808 ≤ IntKind.i64.wrap W ∧ IntKind.i64.wrap W < 9223372036854775808 := by rw [IntKind.wrap_i64]; omega
  have hp : (0 : Int) < 2 ^ (64 - 7 * (a.length + 1)) := Int.pow_pos (by decide)
  have hgx : (a ++ [x])[a.length]'(by simp) = x := by rw [List.getElem_append_right (Nat.le_refl _)]; simp
  have hsv := sval_last (a ++ [x]) a.length (by simp) (by rw [hgx]; exact hx)
  rw [hgx] at hsv
  have hbd : -9223372036854775808 ≤ sval (a ++ [x]) ∧ sval (a ++ [x]) < 9223372036854775808 := by
    generalize (2 : Int) ^ (64 - 7 * (a.length + 1)) = P at *
    rw [← hs]
    exact ⟨(Int.le_ediv_iff_mul_le hp).2 (by omega), (Int.ediv_lt_iff_lt_mul hp).2 (by omega)⟩
  exact ⟨a.length, x, by simp, h9, by simp, hx, hsv, hbd⟩

/-- does any number of further bytes serve? -/
def OpZ (mn mx lim : Int) (q j : Nat) : Prop := ∃ z, 1 ≤ z ∧ z < j ∧ hasR mn mx (behD lim q z)

/-- behind the loop -/
def ZOut (R : Nat) (B : ByteArray) (lim : Int) (O : Out (List UInt8)) (w : World) (v : Value) (wx : World) : Prop :=
  Upd (· = R) w wx ∧ ((∃ ds q, O = .ok ds q ∧ Bytes wx v ds ∧ Rdr wx R B q lim 0 0) ∨ (∃ p' er sp, er ≠ 0 ∧ Rdr wx R B p' lim er sp ∧ O = .up sp er))

theorem rSint_any {w : World} {R : Nat} {B : ByteArray} {p : Nat} {lim : Int} (h : Rdr w R B p lim 0 0) (hi : Inv B.size lim p) (bits : Nat) (hb1 : 1 ≤ bits) (hb2 : bits ≤ 64) (mn mx : Int) (hm : 0 ≤ mn) :
    Calls Try.prog 33 #[.pointer (some ⟨R, 0, none⟩), .int .i64 bits, .agg #[.int .i64 mn, .int .i64 mx]] w (RGot R B lim SintV (sintO B.data.toList lim (fun r => hasR mn mx r) bits p) w) := by
  have HI := hid hi
  have H0 := hid h
  have hR := h.lt
  obtain ⟨O, hO⟩ : ∃ O, sintO B.data.toList lim (fun r => hasR mn mx r) bits p = O := ⟨_, rfl⟩
  have HO := hid hO
  rw [hO]
  have HL := hid (size_list B)
  have hn0 : New w (w.alloc (.cells #[.int .i64 mn, .int .i64 mx] 44)) := (Upd.refl _ _).alloc _
  have i0 : ZInv R B lim mn mx bits O w w.heap.size [] (.slice none 0 0) ((bits - 1) / 7 + 2) (w.alloc (.cells #[.int .i64 mn, .int .i64 mx] 44)) :=
    ⟨New.upd hn0, Blk.mk, Bytes.nil _, (fun g hg => by cases hg), .inl ⟨p, h.new hn0, hi, by simp, by simp, by simpa [sintO] using hO⟩⟩
  have I0 := hid i0
  have eq7 : ((bits : Int) + 6) / 7 = (((bits - 1) / 7 + 1 : Nat) : Int) := by omega
  obtain ⟨l, hl⟩ : ∃ l, (bits - 1) / 7 = l := ⟨_, rfl⟩
  have HLL := hid hl
  have hl9 : l ≤ 9 := by omega
  rw [hl] at eq7
  clear hi h hO i0 hn0 hl
  go_enter Try.func33, Try.ntmps33
  go_upto_block 0 with fail
  rw [eq7]
  clear eq7
  go_cut [8] (fun v wx => ZOut R B lim O w v wx)
  case first =>
    generalize w.alloc (.cells #[.int .i64 mn, .int .i64 mx] 44) = w1 at *
    go_wp2_with fail
    go_loopg [8, 9, 10, 11, 12, 13, 14] (l + 2) (fun k v _ _ _ _ _ _ wr => ∃ ds : List UInt8, ZInv R B lim mn mx bits O w w.heap.size ds v k wr)
    case atStart => exact ⟨[], by have := I0.out; rw [HLL.out] at this; exact this⟩
    case round =>
      obtain ⟨ds, hinv⟩ := hrel
      have IR := hid hinv
      obtain ⟨av, cv, rfl⟩ := hinv.by'.rd.shape
      clear hinv I0
      rcases IR.out.st with ⟨q1, hq, hiq, hl4, hk, hnum⟩ | ⟨p', er, sp, he, hr, ho, hk, hl5⟩
      · rw [HLL.out] at hl4 hk hnum
        obtain ⟨i, hi⟩ : ∃ i, ds.length = i := ⟨_, rfl⟩
        obtain ⟨n, hn⟩ : ∃ n, l + 1 - i = n + 1 := ⟨l - i, by omega⟩
        rw [hi] at hl4 hk hnum
        rw [hn] at hnum
        have hlt : (i : Int) < ((l + 1 : Nat) : Int) := by omega
        rw [hi]
        have HNX := hid (rNext_any hq hiq)
        have HNUM := hid hnum
        have HII := hid hi
        have HNN := hid hn
        have HIQ := hid hiq
        have HK := hid hk
        have NU := hid (numO_next (bs := B.data.toList) (lim := lim) (may := mayS (fun r => hasR mn mx r) bits) (n := n) (ds := ds) (p := q1))
        clear hnum hi hn hq hiq hk
        go_wp2_with fail
        refine HNX.out.mono ?_
        rintro e w2 ⟨hu2, hm2⟩
        have U2 := hid (IR.out.up.trans hu2 (fun _ _ h => h))
        cases ho : nextO B.data.toList lim q1 with
        | up q' er =>
          rw [ho] at hm2
          obtain ⟨a, p', rfl, hr2⟩ := hm2
          have HOU : Hid (O = .up q' er) := by show _ = _; rw [← HNUM.out]; exact NU.out.1 _ _ ho
          have hne := nextO_er ho
          have c3 := hr2.c3
          have hb : ((er : Int) != 0) = true := by rw [bne_iff_ne]; omega
          have HR2 := hid hr2
          clear ho hr2 hu2
          unfold cb
          go_wp2_with fail
          go_ret
          exact RGot.mk_up [] HOU.out U2.out rfl HR2.out
        | ok b q' =>
          rw [ho] at hm2
          obtain ⟨rfl, hr2⟩ := hm2
          have c3 := hr2.c3
          have hno := nextO_ok ho
          have NUB := hid (NU.out.2 _ _ ho)
          obtain ⟨hq2, hpl, hr0⟩ := hno
          have hiq' := HIQ.out.next hr0 (by rw [← size_list]; exact hpl)
          rw [← hq2] at hiq'
          have HQ2 := hid hq2
          have HIQ2 := hid hiq'
          have HR2 := hid hr2
          have hrl : Hid (lim = -1 ∨ (0 ≤ rest lim q' ∧ rest lim q' < 1099511627776)) := by
            have h1 := HIQ.out.lim
            have h2 := hiq'.rest
            rcases h1 with h1 | h1
            · exact .inl h1
            · refine .inr ⟨h2.1, ?_⟩
              rw [hq2]
              unfold rest
              split <;> omega
          have hbl := hiq'.len
          have hpp := hiq'.place
          have HB2 : Hid (Blk w2 w.heap.size (.int .i64 mn) (.int .i64 mx) 44) := (hu2.block _ IR.out.bx.lt (by omega)).trans IR.out.bx
          have hby := IR.out.by'.upd hu2 (fun g hg hh => by have := IR.out.fr g hg; omega)
          have hfr0 := IR.out.fr
          rw [HII.out] at hby hfr0
          have FR := hid hfr0
          clear hfr0
          have hbn := u8_lt b
          clear ho hr2 hu2 hiq' hpl hr0 hq2
          unfold cb
          go_wp2_with (at_builtin; refine hold ?_)
          refine appB (.tmp 31) (.tmp 33) b hby (by rfl) (by rw [HII.out]; omega) rfl rfl rfl rfl ?_
          intro v3 w3 hb3 ha3
          have fr3 : ∀ g, v3.ownBlock = some g → w.heap.size < g := by
            intro g hg
            rcases ha3.at' with hh | ⟨gg, h1, h2⟩
            · rw [hh] at hg; exact FR.out g hg
            · rw [h1] at hg; cases hg; have := U2.out.size; have := HB2.out.lt; omega
          have nR : ∀ k, (Value.slice av i cv).ownBlock = some k → ¬ k = R := fun k hk hkR => by have := FR.out k hk; omega
          have U3 := hid (U2.out.trans (ha3.upd.mono (T := fun k => k = R ∨ w.heap.size < k) (fun k _ hk => .inr (FR.out k hk))) (fun k hk hh => by
            rcases hh with hh | hh
            · exact hh
            · omega))
          have H3 : Hid (Rdr w3 R B q' lim 0 0) := HR2.out.upd ha3.upd (fun hh => nR R hh rfl)
          have HB3 : Hid (Blk w3 w.heap.size (.int .i64 mn) (.int .i64 mx) 44) := (ha3.upd.block _ HB2.out.lt (fun hh => by have := FR.out _ hh; omega)).trans HB2.out
          have hlen : (ds ++ [b]).length = i + 1 := by rw [List.length_append, HII.out]; rfl
          obtain ⟨a3, c3', rfl⟩ := hb3.rd.shape
          rw [hlen]
          have HBY3 := hid hb3
          have FR3 := hid fr3
          have HLEN := hid hlen
          clear hby ha3 hb3 fr3 nR hlen c3
          by_cases hb : b.toNat < 128
          · have hbi : (b.toNat : Int) < 128 := by omega
            have hw1 : 1 ≤ bits - 7 * i := by have := HLL.out; omega
            have hw7 : i < l → 8 ≤ bits - 7 * i := by have := HLL.out; omega
            have hwl : i = l → bits - 7 * i ≤ 7 := by have := HLL.out; omega
            obtain ⟨lw, hlw⟩ : ∃ lw, bits - 7 * i = lw := ⟨_, rfl⟩
            rw [hlw] at hw1 hw7 hwl
            have hlw2 : ((bits : Int) - 7 * i) = (lw : Int) := by omega
            have hlw64 : lw ≤ 64 := by omega
            have HLW := hid hlw
            have HW7 := hid hw7
            have HWL := hid hwl
            clear hlw hw7 hwl
            go_upto_block 2 with fail
            clear hlw2
            go_cut [12] (fun _ wx => Upd (· = R) w3 wx ∧ ∃ c : Bool, RS wx R B q' lim q1 c ∧ (c = true ↔ Same b.toNat lw (if i < l then lw else 7)))
            case first =>
              go_wp2_with fail
              go_loopg [12] 65 (fun k c wr => ∃ kk : Nat, c = .int .i64 kk ∧ k = 65 + lw - kk ∧ lw ≤ kk ∧ (kk ≤ 7 ∨ kk = lw) ∧ Upd (· = R) w3 wr ∧ ∃ c : Bool, RS wr R B q' lim q1 c ∧ (c = true ↔ Same b.toNat lw kk))
              case atStart => exact ⟨lw, rfl, by omega, Nat.le_refl _, .inr rfl, Upd.refl _ _, true, H3.out, by simp only [true_iff]; intro j h1 h2; omega⟩
              case round =>
                obtain ⟨kk, rfl, rfl, hk1, hk2, hu, c, hc, hcs⟩ := hrel
                have HU := hid hu
                have HC := hid hc
                have HCS := hid hcs
                clear hu hc hcs
                by_cases hk : (kk : Int) < 7
                · have hil : i = l := by rcases Nat.lt_or_ge i l with h | h; (have := HW7.out h; omega); omega
                  have hq : ((i : Int) == (l : Int)) = true := by rw [beq_iff_eq]; omega
                  have hw7 : lw ≤ 7 := HWL.out hil
                  clear hil
                  have hbit : ∀ j : Nat, ((b.toNat : Int) / 2 ^ j).tmod 2 = (bit b.toNat j : Int) := fun j => by
                    have e : ((b.toNat : Int) / 2 ^ j) = ((b.toNat / 2 ^ j : Nat) : Int) := by push_cast; rfl
                    rw [e, Int.tmod_eq_emod_of_nonneg (Int.natCast_nonneg _)]
                    unfold bit
                    rw [Int.natCast_emod]; rfl
                  obtain ⟨lm, hlm⟩ : ∃ lm, lw - 1 = lm := ⟨_, rfl⟩
                  have e63 : IntKind.i64.wrap ((lw : Int) - 1) = (lm : Int) := by rw [IntWalk.i64_in _ (by omega)]; omega
                  have hlm6 : lm ≤ 6 := by omega
                  have HLM := hid hlm
                  clear hlm
                  go_upto_region 14 with fail
                  have e70 : IntKind.i64.wrap ((q' : Int) - 1) = (q1 : Int) := by have h1 := HIQ2.out.place; have h2 := HIQ2.out.len; have h3 := HQ2.out; rw [IntWalk.i64_in _ (by omega)]; omega
                  have hnn : New wr wr.drew := (Upd.refl _ _).drew
                  have hne : w.heap.size ≠ R := by omega
                  have hn : SZ wr R w.heap.size q' mn mx wr.drew := ⟨(Upd.refl _ _).drew, HC.out.c1, ((HU.out.block _ HB3.out.lt (by omega)).trans HB3.out)⟩
                  refine wp_region_noPanic ?_
                  refine wp_region_held_drew (S := (SZ wr R w.heap.size q' mn mx)) (by kernel_rfl) (by first | exact hn | exact (Upd.refl _ _).drew | exact Upd.drew (by assumption)) (fun hn => ?_)
                  generalize wr.drew = wd at *
                  refine wpAnyH_take (i := 0) (oi := { dst := some 55, op := Op.move (Operand.tmp 0), type := 33, pos := "ref.go:197", after := #[], guard := none }) (v := ?v21x1) rfl (by kernel_rfl) (by kernel_rfl) (by kernel_rfl) (fun _ _ _ h => h) (Or.inl ⟨by rfl, ?y21x1⟩) hn ?r21x1
                  case y21x1 => (intro wS hS; (try go_simp); (try with_reducible rfl))
                  try simp only [Act.put, List.setIfInBounds_toArray, List.set_cons_zero, List.set_cons_succ]
                  refine wpAnyH_take (i := 1) (oi := { dst := some 56, op := Op.move (Operand.tmp 9), type := 5, pos := "ref.go:197", after := #[], guard := none }) (v := ?v21x2) rfl (by kernel_rfl) (by kernel_rfl) (by kernel_rfl) (fun _ _ _ h => h) (Or.inl ⟨by rfl, ?y21x2⟩) hn ?r21x2
                  case y21x2 => (intro wS hS; (try go_simp); (try with_reducible rfl))
                  try simp only [Act.put, List.setIfInBounds_toArray, List.set_cons_zero, List.set_cons_succ]
                  refine wpAnyH_take (i := 2) (oi := { dst := some 57, op := Op.move (Operand.tmp 12), type := 3, pos := "ref.go:197", after := #[], guard := none }) (v := ?v21x3) rfl (by kernel_rfl) (by kernel_rfl) (by kernel_rfl) (fun _ _ _ h => h) (Or.inl ⟨by rfl, ?y21x3⟩) hn ?r21x3
                  case y21x3 => (intro wS hS; (try go_simp); (try with_reducible rfl))
                  try simp only [Act.put, List.setIfInBounds_toArray, List.set_cons_zero, List.set_cons_succ]
                  refine wpAnyH_take (i := 3) (oi := { dst := some 58, op := Op.binOp BinOp.shr 5 (Operand.tmp 56) (Operand.tmp 57) 3, type := 5, pos := "ref.go:197", after := #[{ on := 1, ground := Ground.data }, { on := 2, ground := Ground.data }], guard := none }) (v := ?v21x4) rfl (by kernel_rfl) (by kernel_rfl) (by kernel_rfl) (fun _ _ _ h => h) (Or.inl ⟨by rfl, ?y21x4⟩) hn ?r21x4
                  case y21x4 => (intro wS hS; (try go_simp); (try with_reducible rfl))
                  try simp only [Act.put, List.setIfInBounds_toArray, List.set_cons_zero, List.set_cons_succ]
                  refine wpAnyH_take (i := 4) (oi := { dst := some 59, op := Op.binOp BinOp.rem 5 (Operand.tmp 58) (Operand.const (Value.int IntKind.u8 2)) 5, type := 5, pos := "ref.go:197", after := #[{ on := 3, ground := Ground.data }], guard := none }) (v := ?v21x5) rfl (by kernel_rfl) (by kernel_rfl) (by kernel_rfl) (fun _ _ _ h => h) (Or.inl ⟨by rfl, ?y21x5⟩) hn ?r21x5
                  case y21x5 => (intro wS hS; (try go_simp); (try with_reducible rfl))
                  try simp only [Act.put, List.setIfInBounds_toArray, List.set_cons_zero, List.set_cons_succ]
                  refine wpAnyH_take (i := 5) (oi := { dst := some 60, op := Op.move (Operand.tmp 9), type := 5, pos := "ref.go:197", after := #[], guard := none }) (v := ?v21x6) rfl (by kernel_rfl) (by kernel_rfl) (by kernel_rfl) (fun _ _ _ h => h) (Or.inl ⟨by rfl, ?y21x6⟩) hn ?r21x6
                  case y21x6 => (intro wS hS; (try go_simp); (try with_reducible rfl))
                  try simp only [Act.put, List.setIfInBounds_toArray, List.set_cons_zero, List.set_cons_succ]
                  refine wpAnyH_take (i := 6) (oi := { dst := some 61, op := Op.move (Operand.tmp 11), type := 3, pos := "ref.go:197", after := #[], guard := none }) (v := ?v21x7) rfl (by kernel_rfl) (by kernel_rfl) (by kernel_rfl) (fun _ _ _ h => h) (Or.inl ⟨by rfl, ?y21x7⟩) hn ?r21x7
                  case y21x7 => (intro wS hS; (try go_simp); (try with_reducible rfl))
                  try simp only [Act.put, List.setIfInBounds_toArray, List.set_cons_zero, List.set_cons_succ]
                  refine wpAnyH_take (i := 7) (oi := { dst := some 62, op := Op.binOp BinOp.sub 3 (Operand.tmp 61) (Operand.const (Value.int IntKind.i64 1)) 3, type := 3, pos := "ref.go:197", after := #[{ on := 6, ground := Ground.data }], guard := none }) (v := ?v21x8) rfl (by kernel_rfl) (by kernel_rfl) (by kernel_rfl) (fun _ _ _ h => h) (Or.inl ⟨by rfl, ?y21x8⟩) hn ?r21x8
                  case y21x8 => (intro wS hS; (try go_simp); (try with_reducible rfl))
                  try simp only [Act.put, List.setIfInBounds_toArray, List.set_cons_zero, List.set_cons_succ]
                  refine wpAnyH_take (i := 8) (oi := { dst := some 63, op := Op.binOp BinOp.shr 5 (Operand.tmp 60) (Operand.tmp 62) 3, type := 5, pos := "ref.go:197", after := #[{ on := 5, ground := Ground.data }, { on := 7, ground := Ground.data }], guard := none }) (v := ?v21x9) rfl (by kernel_rfl) (by kernel_rfl) (by kernel_rfl) (fun _ _ _ h => h) (Or.inl ⟨by rfl, ?y21x9⟩) hn ?r21x9
                  case y21x9 => (intro wS hS; (try go_simp); (try with_reducible rfl))
                  try simp only [Act.put, List.setIfInBounds_toArray, List.set_cons_zero, List.set_cons_succ]
                  refine wpAnyH_take (i := 9) (oi := { dst := some 64, op := Op.binOp BinOp.rem 5 (Operand.tmp 63) (Operand.const (Value.int IntKind.u8 2)) 5, type := 5, pos := "ref.go:197", after := #[{ on := 8, ground := Ground.data }], guard := none }) (v := ?v21x10) rfl (by kernel_rfl) (by kernel_rfl) (by kernel_rfl) (fun _ _ _ h => h) (Or.inl ⟨by rfl, ?y21x10⟩) hn ?r21x10
                  case y21x10 => (intro wS hS; (try go_simp); (try with_reducible rfl))
                  try simp only [Act.put, List.setIfInBounds_toArray, List.set_cons_zero, List.set_cons_succ]
                  refine wpAnyH_take (i := 10) (oi := { dst := some 65, op := Op.binOp BinOp.eql 5 (Operand.tmp 59) (Operand.tmp 64) 5, type := 4, pos := "ref.go:197", after := #[{ on := 4, ground := Ground.data }, { on := 9, ground := Ground.data }], guard := none }) (v := ?v21x11) rfl (by kernel_rfl) (by kernel_rfl) (by kernel_rfl) (fun _ _ _ h => h) (Or.inl ⟨by rfl, ?y21x11⟩) hn ?r21x11
                  case y21x11 => (intro wS hS; (try go_simp); (try with_reducible rfl))
                  try simp only [Act.put, List.setIfInBounds_toArray, List.set_cons_zero, List.set_cons_succ]
                  refine wpAnyH_take (i := 11) (oi := { dst := some 66, op := Op.move (Operand.tmp 0), type := 33, pos := "ref.go:197", after := #[], guard := none }) (v := ?v21x12) rfl (by kernel_rfl) (by kernel_rfl) (by kernel_rfl) (fun _ _ _ h => h) (Or.inl ⟨by rfl, ?y21x12⟩) hn ?r21x12
                  case y21x12 => (intro wS hS; (try go_simp); (try with_reducible rfl))
                  try simp only [Act.put, List.setIfInBounds_toArray, List.set_cons_zero, List.set_cons_succ]
                  refine wpAnyH_take (i := 12) (oi := { dst := some 67, op := Op.nilCheck (Operand.tmp 66), type := 0, pos := "ref.go:197", after := #[{ on := 11, ground := Ground.data }], guard := none }) (v := ?v21x13) rfl (by kernel_rfl) (by kernel_rfl) (by kernel_rfl) (fun _ _ _ h => h) (Or.inl ⟨by rfl, ?y21x13⟩) hn ?r21x13
                  case y21x13 => (intro wS hS; (try go_simp); (try with_reducible rfl))
                  try simp only [Act.put, List.setIfInBounds_toArray, List.set_cons_zero, List.set_cons_succ]
                  refine wpAnyH_take (i := 13) (oi := { dst := some 68, op := Op.fieldAddr 37 (Operand.tmp 67) 1, type := 0, pos := "ref.go:197", after := #[{ on := 12, ground := Ground.data }], guard := none }) (v := ?v21x14) rfl (by kernel_rfl) (by kernel_rfl) (by kernel_rfl) (fun _ _ _ h => h) (Or.inl ⟨by rfl, ?y21x14⟩) hn ?r21x14
                  case y21x14 => (intro wS hS; (try go_simp); (try with_reducible rfl))
                  try simp only [Act.put, List.setIfInBounds_toArray, List.set_cons_zero, List.set_cons_succ]
                  refine wpAnyH_take (i := 14) (oi := { dst := some 69, op := Op.load 3 (Operand.tmp 68), type := 3, pos := "ref.go:197", after := #[{ on := 13, ground := Ground.data }], guard := none }) (v := ?v21x15) rfl (by kernel_rfl) (by kernel_rfl) (by kernel_rfl) (fun _ _ _ h => h) (Or.inl ⟨by rfl, ?y21x15⟩) hn ?r21x15
                  case y21x15 => (intro wS hS; have c := hS.c1; (try go_simp); (try with_reducible rfl))
                  try simp only [Act.put, List.setIfInBounds_toArray, List.set_cons_zero, List.set_cons_succ]
                  refine wpAnyH_take (i := 15) (oi := { dst := some 70, op := Op.binOp BinOp.sub 3 (Operand.tmp 69) (Operand.const (Value.int IntKind.i64 1)) 3, type := 3, pos := "ref.go:197", after := #[{ on := 14, ground := Ground.data }], guard := none }) (v := ?v21x16) rfl (by kernel_rfl) (by kernel_rfl) (by kernel_rfl) (fun _ _ _ h => h) (Or.inl ⟨by rfl, ?y21x16⟩) hn ?r21x16
                  case y21x16 => (intro wS hS; (try go_simp); (try with_reducible rfl))
                  try simp only [Act.put, List.setIfInBounds_toArray, List.set_cons_zero, List.set_cons_succ]
                  refine wpAnyH_ready (rs := [16]) (by kernel_rfl) (by simp) ?_
                  refine AllReadyH.cons (o := { dst := some 71, op := Op.call { callee := Callee.value (Operand.func 31), args := #[Operand.tmp 55, Operand.tmp 65, Operand.tmp 70], argTypes := #[33, 4, 3] }, type := 0, pos := "ref.go:197", after := #[{ on := 0, ground := Ground.data }, { on := 10, ground := Ground.data }, { on := 15, ground := Ground.data }], guard := none }) rfl (fun K hK => ?_) AllReadyH.nil
                  go_simp
                  refine (rNeed_RS (HC.out.new hnn) _).mono ?_
                  rintro e wc ⟨rfl, h5, u5⟩
                  have H5 := hid h5
                  go_wp2_with fail
                  have hn := hn.upd u5 hne h5.c1
                  clear h5
                  refine hK.out _ _ (by first | exact hn | exact Upd.alloc hn _) (fun hn => ?_)
                  clear hK K
                  try simp only [Act.put, List.setIfInBounds_toArray, List.set_cons_zero, List.set_cons_succ]
                  refine wpAnyH_done (by kernel_rfl) ?_ _
                  refine NoPanic.normal ?_
                  have U5 := hid (HU.out.trans hn.up (fun _ _ h => h))
                  clear hn hnn e70 u5 e63 hbit
                  go_wp2_with fail
                  go_roundg (65 + lw - (kk + 1))
                  case measure => omega
                  case rel =>
                    refine ⟨kk + 1, by go_num, rfl, by omega, by omega, U5.out, _, H5.out, ?_⟩
                    rw [Same.step hk1, Bool.and_eq_true, HCS.out, beq_iff_eq, HLM.out]
                    exact and_congr_right fun _ => by omega
                · have hk3 : Hid (kk = if i < l then lw else 7) := by
                    show _ = _
                    split
                    · have := HW7.out (by assumption); omega
                    · have := HWL.out (by omega); omega
                  go_wp2_with fail
                  go_meet
                  exact ⟨HU.out, c, HC.out, by rw [← hk3.out]; exact HCS.out⟩
            case rest =>
              obtain ⟨hu, c, hc, hcs⟩ := hcut
              have HU := hid hu
              have HC := hid hc
              have HCS := hid hcs
              clear hu hc hcs
              have HNE := hid (show w.heap.size ≠ R by omega)
              have HB4 : Hid (Blk wc w.heap.size (.int .i64 mn) (.int .i64 mx) 44) := (HU.out.block _ HB3.out.lt (by omega)).trans HB3.out
              have HRS : Hid (∀ W, New wc W → Calls Try.prog 38 #[.pointer (some ⟨R, 0, none⟩)] W fun e w' => e = .returned (.int .i64 (rest lim q')) ∧ New W w') := fun W hW => rRest_any (Rdr.new HC.out hW) HIQ2.out
              have HHR : Hid (∀ W, Calls Try.prog 50 #[.agg #[.int .i64 mn, .int .i64 mx], .int .i64 (rest lim q')] W (Yes (hasR mn mx (rest lim q')) W)) := fun W => rHasR_any mn mx _ W hm
              have HSH : Hid (mayS (fun r => hasR mn mx r) bits ds b (rest lim q') ↔ hasR mn mx (rest lim q') ∧ (i < l ∨ alike b.toNat lw)) := by
                have := sshut_iff mn mx (rest lim q') bits ds b hb
                rw [HII.out, HLL.out, HLW.out] at this
                exact this
              generalize rest lim q' = r at *
              go_upto_region 15 with fail
              have e81 : IntKind.i64.wrap ((q' : Int) - 1) = (q1 : Int) := by have h1 := HIQ2.out.place; have h2 := HIQ2.out.len; have h3 := HQ2.out; rw [IntWalk.i64_in _ (by omega)]; omega
              have hnn : New wc wc.drew := (Upd.refl _ _).drew
              have hn : SZ wc R w.heap.size q' mn mx wc.drew := ⟨(Upd.refl _ _).drew, HC.out.c1, HB4.out⟩
              refine wp_region_noPanic ?_
              refine wp_region_held_drew (S := (SZ wc R w.heap.size q' mn mx)) (by kernel_rfl) (by first | exact hn | exact (Upd.refl _ _).drew | exact Upd.drew (by assumption)) (fun hn => ?_)
              generalize wc.drew = wd at *
              refine wpAnyH_take (i := 0) (oi := { dst := some 72, op := Op.move (Operand.tmp 0), type := 33, pos := "ref.go:199", after := #[], guard := none }) (v := ?v22x1) rfl (by kernel_rfl) (by kernel_rfl) (by kernel_rfl) (fun _ _ _ h => h) (Or.inl ⟨by rfl, ?y22x1⟩) hn ?r22x1
              case y22x1 => (intro wS hS; (try go_simp); (try with_reducible rfl))
              try simp only [Act.put, List.setIfInBounds_toArray, List.set_cons_zero, List.set_cons_succ]
              refine wpAnyH_take (i := 1) (oi := { dst := some 73, op := Op.load 44 (Operand.tmp 5), type := 44, pos := "ref.go:199", after := #[], guard := none }) (v := ?v22x2) rfl (by kernel_rfl) (by kernel_rfl) (by kernel_rfl) (fun _ _ _ h => h) (Or.inl ⟨by rfl, ?y22x2⟩) hn ?r22x2
              case y22x2 => (intro wS hS; rw [load_box (cs := #[.int .i64 mn, .int .i64 mx]) (t := 44) (g := w.heap.size) rfl rfl hS.bx Try.underlying44 rfl infoZ]; (try go_simp); (try with_reducible rfl))
              try simp only [Act.put, List.setIfInBounds_toArray, List.set_cons_zero, List.set_cons_succ]
              refine wpAnyH_take (i := 2) (oi := { dst := some 74, op := Op.move (Operand.tmp 0), type := 33, pos := "ref.go:199", after := #[], guard := none }) (v := ?v22x3) rfl (by kernel_rfl) (by kernel_rfl) (by kernel_rfl) (fun _ _ _ h => h) (Or.inl ⟨by rfl, ?y22x3⟩) hn ?r22x3
              case y22x3 => (intro wS hS; (try go_simp); (try with_reducible rfl))
              try simp only [Act.put, List.setIfInBounds_toArray, List.set_cons_zero, List.set_cons_succ]
              refine wpAnyH_take (i := 5) (oi := { dst := some 77, op := Op.move (Operand.tmp 0), type := 33, pos := "ref.go:199", after := #[], guard := none }) (v := ?v22x4) rfl (by kernel_rfl) (by kernel_rfl) (by kernel_rfl) (fun _ _ _ h => h) (Or.inl ⟨by rfl, ?y22x4⟩) hn ?r22x4
              case y22x4 => (intro wS hS; (try go_simp); (try with_reducible rfl))
              try simp only [Act.put, List.setIfInBounds_toArray, List.set_cons_zero, List.set_cons_succ]
              refine wpAnyH_take (i := 6) (oi := { dst := some 78, op := Op.nilCheck (Operand.tmp 77), type := 0, pos := "ref.go:199", after := #[{ on := 5, ground := Ground.data }], guard := none }) (v := ?v22x5) rfl (by kernel_rfl) (by kernel_rfl) (by kernel_rfl) (fun _ _ _ h => h) (Or.inl ⟨by rfl, ?y22x5⟩) hn ?r22x5
              case y22x5 => (intro wS hS; (try go_simp); (try with_reducible rfl))
              try simp only [Act.put, List.setIfInBounds_toArray, List.set_cons_zero, List.set_cons_succ]
              refine wpAnyH_take (i := 7) (oi := { dst := some 79, op := Op.fieldAddr 37 (Operand.tmp 78) 1, type := 0, pos := "ref.go:199", after := #[{ on := 6, ground := Ground.data }], guard := none }) (v := ?v22x6) rfl (by kernel_rfl) (by kernel_rfl) (by kernel_rfl) (fun _ _ _ h => h) (Or.inl ⟨by rfl, ?y22x6⟩) hn ?r22x6
              case y22x6 => (intro wS hS; (try go_simp); (try with_reducible rfl))
              try simp only [Act.put, List.setIfInBounds_toArray, List.set_cons_zero, List.set_cons_succ]
              refine wpAnyH_take (i := 8) (oi := { dst := some 80, op := Op.load 3 (Operand.tmp 79), type := 3, pos := "ref.go:199", after := #[{ on := 7, ground := Ground.data }], guard := none }) (v := ?v22x7) rfl (by kernel_rfl) (by kernel_rfl) (by kernel_rfl) (fun _ _ _ h => h) (Or.inl ⟨by rfl, ?y22x7⟩) hn ?r22x7
              case y22x7 => (intro wS hS; have c := hS.c1; (try go_simp); (try with_reducible rfl))
              try simp only [Act.put, List.setIfInBounds_toArray, List.set_cons_zero, List.set_cons_succ]
              refine wpAnyH_take (i := 9) (oi := { dst := some 81, op := Op.binOp BinOp.sub 3 (Operand.tmp 80) (Operand.const (Value.int IntKind.i64 1)) 3, type := 3, pos := "ref.go:199", after := #[{ on := 8, ground := Ground.data }], guard := none }) (v := ?v22x8) rfl (by kernel_rfl) (by kernel_rfl) (by kernel_rfl) (fun _ _ _ h => h) (Or.inl ⟨by rfl, ?y22x8⟩) hn ?r22x8
              case y22x8 => (intro wS hS; (try go_simp); (try with_reducible rfl))
              try simp only [Act.put, List.setIfInBounds_toArray, List.set_cons_zero, List.set_cons_succ]
              refine wpAnyH_ready (rs := [3]) (by kernel_rfl) (by simp) ?_
              refine AllReadyH.cons (o := { dst := some 75, op := Op.call { callee := Callee.value (Operand.func 38), args := #[Operand.tmp 74], argTypes := #[33] }, type := 3, pos := "ref.go:199", after := #[{ on := 2, ground := Ground.data }], guard := none }) rfl (fun K hK => ?_) AllReadyH.nil
              go_simp
              refine (HRS.out _ hnn).mono ?_
              rintro e wa ⟨rfl, hna⟩
              go_wp2_with fail
              have hn := hn.new hna
              have hnn := New.trans hnn hna
              refine hK.out _ _ (by first | exact hn | exact Upd.alloc hn _) (fun hn => ?_)
              clear hK K
              try simp only [Act.put, List.setIfInBounds_toArray, List.set_cons_zero, List.set_cons_succ]
              refine wpAnyH_ready (rs := [4]) (by kernel_rfl) (by simp) ?_
              refine AllReadyH.cons (o := { dst := some 76, op := Op.call { callee := Callee.value (Operand.func 50), args := #[Operand.tmp 73, Operand.tmp 75], argTypes := #[44, 3] }, type := 4, pos := "ref.go:199", after := #[{ on := 1, ground := Ground.data }, { on := 3, ground := Ground.data }, { on := 3, ground := Ground.chain }], guard := none }) rfl (fun K hK => ?_) AllReadyH.nil
              go_simp
              refine (HHR.out _).mono ?_
              rintro e wb ⟨d, rfl, hd, hnb⟩
              have HD := hid hd
              clear hd
              go_wp2_with fail
              have hn := hn.new hnb
              have hnn := New.trans hnn hnb
              refine hK.out _ _ (by first | exact hn | exact Upd.alloc hn _) (fun hn => ?_)
              clear hK K
              try simp only [Act.put, List.setIfInBounds_toArray, List.set_cons_zero, List.set_cons_succ]
              refine wpAnyH_ready (rs := [10]) (by kernel_rfl) (by simp) ?_
              refine AllReadyH.cons (o := { dst := some 82, op := Op.call { callee := Callee.value (Operand.func 31), args := #[Operand.tmp 72, Operand.tmp 76, Operand.tmp 81], argTypes := #[33, 4, 3] }, type := 0, pos := "ref.go:199", after := #[{ on := 0, ground := Ground.data }, { on := 4, ground := Ground.data }, { on := 9, ground := Ground.data }, { on := 4, ground := Ground.chain }], guard := none }) rfl (fun K hK => ?_) AllReadyH.nil
              go_simp
              refine (rNeed_RS (HC.out.new hnn) d).mono ?_
              rintro e wc ⟨rfl, h5, u5⟩
              have H5 := hid h5
              go_wp2_with fail
              have hn := hn.upd u5 HNE.out h5.c1
              clear h5
              refine hK.out _ _ (by first | exact hn | exact Upd.alloc hn _) (fun hn => ?_)
              clear hK K
              try simp only [Act.put, List.setIfInBounds_toArray, List.set_cons_zero, List.set_cons_succ]
              refine wpAnyH_done (by kernel_rfl) ?_ _
              refine NoPanic.normal ?_
              have U5 := hid (HU.out.trans hn.up (fun _ _ h => h))
              clear hn hnn e81 u5 hna hnb
              go_wp2_with fail
              go_meet
              have hcs := HCS.out
              have h5 := H5.out
              have hal : Same b.toNat lw (if i < l then lw else 7) ↔ (i < l ∨ alike b.toNat lw) := by
                by_cases hil : i < l
                · rw [if_pos hil]
                  exact ⟨fun _ => .inl hil, fun _ j h1 h2 => by omega⟩
                · rw [if_neg hil, alike_bits _ _ hb hw1 (HWL.out (by omega))]
                  exact ⟨.inr, fun h => h.resolve_left hil⟩
              rw [hal] at hcs
              have hF : (c && d) = true ↔ mayS (fun r => hasR mn mx r) bits ds b r := by
                rw [HSH.out, Bool.and_eq_true, hcs, HD.out]
                exact and_comm
              have U6 := U3.out.trans U5.out (fun _ _ h => h)
              refine ⟨U6, ?_⟩
              rw [← HNUM.out]
              by_cases hcd : mayS (fun r => hasR mn mx r) bits ds b r
              · have hcd2 := hF.2 hcd
                rw [hcd2] at h5
                refine .inl ⟨ds ++ [b], q', ?_, ?_, h5⟩
                · have := NUB.out.1 hcd
                  rw [if_pos hb] at this
                  exact this
                · have := HBY3.out.upd U5.out (fun g hg hh => by have := FR3.out g hg; omega)
                  rw [HLEN.out] at this
                  exact this
              · have hcd2 : (c && d) = false := by
                  cases hx : (c && d)
                  · rfl
                  · exact absurd (hF.1 hx) hcd
                rw [hcd2] at h5
                exact .inr ⟨q', 2, q1, by decide, h5, NUB.out.2 hcd⟩
          · have hbi : ¬ ((b.toNat : Int)) < 128 := by omega
            have HNE := hid (show w.heap.size ≠ R by omega)
            have HOP : Hid (mayS (fun r => hasR mn mx r) bits ds b (rest lim q') ↔ OpZ mn mx lim q' (l + 1 - i)) := by
              have := sopen_iff mn mx hrl.out bits hb2 ds b hb
              rw [HII.out, HLL.out] at this
              rw [this]
              exact ⟨fun ⟨j, h1, h2, h3⟩ => ⟨j, h1, by omega, h3⟩, fun ⟨j, h1, h2, h3⟩ => ⟨j, h1, by omega, h3⟩⟩
            have HHR : Hid (∀ (r : Int) W, Calls Try.prog 50 #[.agg #[.int .i64 mn, .int .i64 mx], .int .i64 r] W (Yes (hasR mn mx r) W)) := fun r W => rHasR_any mn mx r W hm
            have HBE : Hid (∀ j : Nat, j ≤ 100 → ∀ W, New w3 W → Calls Try.prog 64 #[.pointer (some ⟨R, 0, none⟩), .int .i64 j] W fun e w' => e = .returned (.int .i64 (behD lim q' j)) ∧ New W w') :=
              fun j h1 W hW => rBehind_any (H3.out.new hW) HIQ2.out j (by omega) (by omega)
            go_wp2_with fail
            obtain ⟨wo, rfl⟩ : ∃ wo, wo = w3 := ⟨_, rfl⟩
            go_loopw [13, 14] (fun o a wi => ∃ (j : Nat) (ob : Bool), o = .bool ob ∧ a = .int .i64 j ∧ 1 ≤ j ∧ i + j ≤ l + 1 ∧ New wo wi ∧ (ob = true ↔ OpZ mn mx lim q' j)) (fun _ a _ => l + 1 - i - (intOf a).toNat)
            case atStart => exact ⟨1, false, rfl, rfl, Nat.le_refl _, by omega, Upd.refl _ _, by simp only [Bool.false_eq_true, false_iff]; rintro ⟨z, h1, h2, _⟩; omega⟩
            case round =>
              obtain ⟨j, ob, rfl, rfl, hj1, hj5, hwi, hob⟩ := hrel
              obtain ⟨wi, rfl⟩ : ∃ wi : World, wi = wr := ⟨_, rfl⟩
              have HWI := hid hwi
              have HOB := hid hob
              clear hob
              by_cases hj : i + j < l + 1
              · have hjb : (i : Int) + j < (l : Int) + 1 := by omega
                cases ob with
                | true =>
                  go_upto_region 20 with fail
                  have hn : New wi wi.drew := (Upd.refl _ _).drew
                  refine wp_region_noPanic ?_
                  refine wp_region_held_drew (S := (New wi)) (by kernel_rfl) (by first | exact hn | exact (Upd.refl _ _).drew | exact Upd.drew (by assumption)) (fun hn => ?_)
                  refine wpAnyH_take (i := 0) (oi := { dst := some 90, op := Op.move (Operand.tmp 13), type := 4, pos := "ref.go:204", after := #[], guard := none }) (v := ?v23x1) rfl (by kernel_rfl) (by kernel_rfl) (by kernel_rfl) (fun _ _ _ h => h) (Or.inl ⟨by rfl, ?y23x1⟩) hn ?r23x1
                  case y23x1 => (intro wS hS; (try go_simp); (try with_reducible rfl))
                  try simp only [Act.put, List.setIfInBounds_toArray, List.set_cons_zero, List.set_cons_succ]
                  refine wpAnyH_take (i := 1) (oi := { dst := some 91, op := Op.move (Operand.tmp 90), type := 4, pos := "ref.go:204", after := #[{ on := 0, ground := Ground.data }], guard := none }) (v := ?v23x2) rfl (by kernel_rfl) (by kernel_rfl) (by kernel_rfl) (fun _ _ _ h => h) (Or.inl ⟨by rfl, ?y23x2⟩) hn ?r23x2
                  case y23x2 => (intro wS hS; (try go_simp); (try with_reducible rfl))
                  try simp only [Act.put, List.setIfInBounds_toArray, List.set_cons_zero, List.set_cons_succ]
                  refine wpAnyH_take (i := 2) (oi := { dst := some 92, op := Op.load 44 (Operand.tmp 5), type := 44, pos := "ref.go:204", after := #[{ on := 1, ground := Ground.guard }], guard := some (1, false) }) (v := undef) rfl (by kernel_rfl) (by kernel_rfl) (by kernel_rfl) (fun _ _ _ h => h) (Or.inr ⟨by rfl, rfl⟩) hn ?_
                  try simp only [Act.put, List.setIfInBounds_toArray, List.set_cons_zero, List.set_cons_succ]
                  refine wpAnyH_take (i := 3) (oi := { dst := some 93, op := Op.move (Operand.tmp 0), type := 33, pos := "ref.go:204", after := #[{ on := 1, ground := Ground.guard }], guard := some (1, false) }) (v := undef) rfl (by kernel_rfl) (by kernel_rfl) (by kernel_rfl) (fun _ _ _ h => h) (Or.inr ⟨by rfl, rfl⟩) hn ?_
                  try simp only [Act.put, List.setIfInBounds_toArray, List.set_cons_zero, List.set_cons_succ]
                  refine wpAnyH_take (i := 4) (oi := { dst := some 94, op := Op.move (Operand.tmp 14), type := 3, pos := "ref.go:204", after := #[{ on := 1, ground := Ground.guard }], guard := some (1, false) }) (v := undef) rfl (by kernel_rfl) (by kernel_rfl) (by kernel_rfl) (fun _ _ _ h => h) (Or.inr ⟨by rfl, rfl⟩) hn ?_
                  try simp only [Act.put, List.setIfInBounds_toArray, List.set_cons_zero, List.set_cons_succ]
                  refine wpAnyH_take (i := 5) (oi := { dst := some 95, op := Op.call { callee := Callee.value (Operand.func 64), args := #[Operand.tmp 93, Operand.tmp 94], argTypes := #[33, 3] }, type := 3, pos := "ref.go:204", after := #[{ on := 3, ground := Ground.data }, { on := 4, ground := Ground.data }, { on := 1, ground := Ground.chain }, { on := 1, ground := Ground.guard }], guard := some (1, false) }) (v := undef) rfl (by kernel_rfl) (by kernel_rfl) (by kernel_rfl) (fun _ _ _ h => h) (Or.inr ⟨by rfl, rfl⟩) hn ?_
                  try simp only [Act.put, List.setIfInBounds_toArray, List.set_cons_zero, List.set_cons_succ]
                  refine wpAnyH_take (i := 6) (oi := { dst := some 96, op := Op.call { callee := Callee.value (Operand.func 50), args := #[Operand.tmp 92, Operand.tmp 95], argTypes := #[44, 3] }, type := 4, pos := "ref.go:204", after := #[{ on := 2, ground := Ground.data }, { on := 5, ground := Ground.data }, { on := 5, ground := Ground.chain }, { on := 1, ground := Ground.guard }], guard := some (1, false) }) (v := undef) rfl (by kernel_rfl) (by kernel_rfl) (by kernel_rfl) (fun _ _ _ h => h) (Or.inr ⟨by rfl, rfl⟩) hn ?_
                  try simp only [Act.put, List.setIfInBounds_toArray, List.set_cons_zero, List.set_cons_succ]
                  refine wpAnyH_take (i := 7) (oi := { dst := some 97, op := Op.pick (Operand.tmp 91) (Operand.const (Value.bool true)) (Operand.tmp 96), type := 4, pos := "ref.go:204", after := #[{ on := 1, ground := Ground.data }, { on := 6, ground := Ground.data }], guard := none }) (v := ?v23x8) rfl (by kernel_rfl) (by kernel_rfl) (by kernel_rfl) (fun _ _ _ h => h) (Or.inl ⟨by rfl, ?y23x8⟩) hn ?r23x8
                  case y23x8 => (intro wS hS; (try go_simp); (try with_reducible rfl))
                  try simp only [Act.put, List.setIfInBounds_toArray, List.set_cons_zero, List.set_cons_succ]
                  refine wpAnyH_take (i := 8) (oi := { dst := some 13, op := Op.assign (Operand.tmp 97), type := 4, pos := "ref.go:204", after := #[{ on := 7, ground := Ground.data }, { on := 6, ground := Ground.chain }, { on := 0, ground := Ground.phase }, { on := 1, ground := Ground.phase }, { on := 2, ground := Ground.phase }, { on := 3, ground := Ground.phase }, { on := 4, ground := Ground.phase }, { on := 5, ground := Ground.phase }, { on := 6, ground := Ground.phase }, { on := 7, ground := Ground.phase }], guard := none }) (v := ?v23x9) rfl (by kernel_rfl) (by kernel_rfl) (by kernel_rfl) (fun _ _ _ h => h) (Or.inl ⟨by rfl, ?y23x9⟩) hn ?r23x9
                  case y23x9 => (intro wS hS; (try go_simp); (try with_reducible rfl))
                  try simp only [Act.put, List.setIfInBounds_toArray, List.set_cons_zero, List.set_cons_succ]
                  refine wpAnyH_done (by kernel_rfl) ?_ _
                  refine NoPanic.normal ?_
                  go_wp2_with fail
                  go_roundw
                  case rel =>
                    refine ⟨j + 1, true, rfl, by go_num, by omega, by omega, New.trans HWI.out hn, ?_⟩
                    obtain ⟨z, h1, h2, h3⟩ := HOB.out.1 (by first | rfl | trivial)
                    simp only [true_iff]
                    exact ⟨z, h1, by omega, h3⟩
                  case measure => simp [intOf]; omega
                | false =>
                  go_upto_region 20 with fail
                  have hnn : New wo wi.drew := New.trans hwi ((Upd.refl _ _).drew)
                  have hn : New wi wi.drew := (Upd.refl _ _).drew
                  have hbxi : Hid (∀ W, New wi W → W.heap[w.heap.size]? = some (.cells #[.int .i64 mn, .int .i64 mx] 44)) := fun W hW => ((New.trans HWI.out hW).block _ HB3.out.lt (fun h => h)).trans HB3.out
                  clear hwi
                  refine wp_region_noPanic ?_
                  refine wp_region_held_drew (S := (New wi)) (by kernel_rfl) (by first | exact hn | exact (Upd.refl _ _).drew | exact Upd.drew (by assumption)) (fun hn => ?_)
                  generalize wi.drew = wd at *
                  refine wpAnyH_take (i := 0) (oi := { dst := some 90, op := Op.move (Operand.tmp 13), type := 4, pos := "ref.go:204", after := #[], guard := none }) (v := ?v24x1) rfl (by kernel_rfl) (by kernel_rfl) (by kernel_rfl) (fun _ _ _ h => h) (Or.inl ⟨by rfl, ?y24x1⟩) hn ?r24x1
                  case y24x1 => (intro wS hS; (try go_simp); (try with_reducible rfl))
                  try simp only [Act.put, List.setIfInBounds_toArray, List.set_cons_zero, List.set_cons_succ]
                  refine wpAnyH_take (i := 1) (oi := { dst := some 91, op := Op.move (Operand.tmp 90), type := 4, pos := "ref.go:204", after := #[{ on := 0, ground := Ground.data }], guard := none }) (v := ?v24x2) rfl (by kernel_rfl) (by kernel_rfl) (by kernel_rfl) (fun _ _ _ h => h) (Or.inl ⟨by rfl, ?y24x2⟩) hn ?r24x2
                  case y24x2 => (intro wS hS; (try go_simp); (try with_reducible rfl))
                  try simp only [Act.put, List.setIfInBounds_toArray, List.set_cons_zero, List.set_cons_succ]
                  refine wpAnyH_take (i := 2) (oi := { dst := some 92, op := Op.load 44 (Operand.tmp 5), type := 44, pos := "ref.go:204", after := #[{ on := 1, ground := Ground.guard }], guard := some (1, false) }) (v := ?v24x3) rfl (by kernel_rfl) (by kernel_rfl) (by kernel_rfl) (fun _ _ _ h => h) (Or.inl ⟨by rfl, ?y24x3⟩) hn ?r24x3
                  case y24x3 => (intro wS hS; rw [load_box (cs := #[.int .i64 mn, .int .i64 mx]) (t := 44) (g := w.heap.size) rfl rfl (hbxi.out _ hS) Try.underlying44 rfl infoZ]; (try go_simp); (try with_reducible rfl))
                  try simp only [Act.put, List.setIfInBounds_toArray, List.set_cons_zero, List.set_cons_succ]
                  refine wpAnyH_take (i := 3) (oi := { dst := some 93, op := Op.move (Operand.tmp 0), type := 33, pos := "ref.go:204", after := #[{ on := 1, ground := Ground.guard }], guard := some (1, false) }) (v := ?v24x4) rfl (by kernel_rfl) (by kernel_rfl) (by kernel_rfl) (fun _ _ _ h => h) (Or.inl ⟨by rfl, ?y24x4⟩) hn ?r24x4
                  case y24x4 => (intro wS hS; (try go_simp); (try with_reducible rfl))
                  try simp only [Act.put, List.setIfInBounds_toArray, List.set_cons_zero, List.set_cons_succ]
                  refine wpAnyH_take (i := 4) (oi := { dst := some 94, op := Op.move (Operand.tmp 14), type := 3, pos := "ref.go:204", after := #[{ on := 1, ground := Ground.guard }], guard := some (1, false) }) (v := ?v24x5) rfl (by kernel_rfl) (by kernel_rfl) (by kernel_rfl) (fun _ _ _ h => h) (Or.inl ⟨by rfl, ?y24x5⟩) hn ?r24x5
                  case y24x5 => (intro wS hS; (try go_simp); (try with_reducible rfl))
                  try simp only [Act.put, List.setIfInBounds_toArray, List.set_cons_zero, List.set_cons_succ]
                  refine wpAnyH_ready (rs := [5]) (by kernel_rfl) (by simp) ?_
                  refine AllReadyH.cons (o := { dst := some 95, op := Op.call { callee := Callee.value (Operand.func 64), args := #[Operand.tmp 93, Operand.tmp 94], argTypes := #[33, 3] }, type := 3, pos := "ref.go:204", after := #[{ on := 3, ground := Ground.data }, { on := 4, ground := Ground.data }, { on := 1, ground := Ground.chain }, { on := 1, ground := Ground.guard }], guard := some (1, false) }) rfl (fun K hK => ?_) AllReadyH.nil
                  go_simp
                  refine (HBE.out j (by omega) _ hnn).mono ?_
                  rintro e wa ⟨rfl, hna⟩
                  go_wp2_with fail
                  have hn := New.trans hn hna
                  have hnn := New.trans hnn hna
                  refine hK.out _ _ (by first | exact hn | exact Upd.alloc hn _) (fun hn => ?_)
                  clear hK K
                  try simp only [Act.put, List.setIfInBounds_toArray, List.set_cons_zero, List.set_cons_succ]
                  refine wpAnyH_ready (rs := [6]) (by kernel_rfl) (by simp) ?_
                  refine AllReadyH.cons (o := { dst := some 96, op := Op.call { callee := Callee.value (Operand.func 50), args := #[Operand.tmp 92, Operand.tmp 95], argTypes := #[44, 3] }, type := 4, pos := "ref.go:204", after := #[{ on := 2, ground := Ground.data }, { on := 5, ground := Ground.data }, { on := 5, ground := Ground.chain }, { on := 1, ground := Ground.guard }], guard := some (1, false) }) rfl (fun K hK => ?_) AllReadyH.nil
                  go_simp
                  refine (HHR.out _ _).mono ?_
                  rintro e wb ⟨c, rfl, hc, hnb⟩
                  have HC := hid hc
                  clear hc
                  go_wp2_with fail
                  have hn := New.trans hn hnb
                  have hnn := New.trans hnn hnb
                  refine hK.out _ _ (by first | exact hn | exact Upd.alloc hn _) (fun hn => ?_)
                  clear hK K
                  try simp only [Act.put, List.setIfInBounds_toArray, List.set_cons_zero, List.set_cons_succ]
                  refine wpAnyH_take (i := 7) (oi := { dst := some 97, op := Op.pick (Operand.tmp 91) (Operand.const (Value.bool true)) (Operand.tmp 96), type := 4, pos := "ref.go:204", after := #[{ on := 1, ground := Ground.data }, { on := 6, ground := Ground.data }], guard := none }) (v := ?v24x6) rfl (by kernel_rfl) (by kernel_rfl) (by kernel_rfl) (fun _ _ _ h => h) (Or.inl ⟨by rfl, ?y24x6⟩) hn ?r24x6
                  case y24x6 => (intro wS hS; (try go_simp); (try with_reducible rfl))
                  try simp only [Act.put, List.setIfInBounds_toArray, List.set_cons_zero, List.set_cons_succ]
                  refine wpAnyH_take (i := 8) (oi := { dst := some 13, op := Op.assign (Operand.tmp 97), type := 4, pos := "ref.go:204", after := #[{ on := 7, ground := Ground.data }, { on := 6, ground := Ground.chain }, { on := 0, ground := Ground.phase }, { on := 1, ground := Ground.phase }, { on := 2, ground := Ground.phase }, { on := 3, ground := Ground.phase }, { on := 4, ground := Ground.phase }, { on := 5, ground := Ground.phase }, { on := 6, ground := Ground.phase }, { on := 7, ground := Ground.phase }], guard := none }) (v := ?v24x7) rfl (by kernel_rfl) (by kernel_rfl) (by kernel_rfl) (fun _ _ _ h => h) (Or.inl ⟨by rfl, ?y24x7⟩) hn ?r24x7
                  case y24x7 => (intro wS hS; (try go_simp); (try with_reducible rfl))
                  try simp only [Act.put, List.setIfInBounds_toArray, List.set_cons_zero, List.set_cons_succ]
                  refine wpAnyH_done (by kernel_rfl) ?_ _
                  refine NoPanic.normal ?_
                  go_wp2_with fail
                  go_roundw
                  case rel =>
                    refine ⟨j + 1, c, rfl, by go_num, by omega, by omega, hnn, ?_⟩
                    rw [HC.out]
                    constructor
                    · intro h; exact ⟨j, hj1, by omega, h⟩
                    · rintro ⟨z, h1, h2, h3⟩
                      rcases Nat.lt_or_ge z j with h4 | h4
                      · have := HOB.out.2 ⟨z, h1, h4, h3⟩
                        simp at this
                      · have : z = j := by omega
                        subst this
                        exact h3
                  case measure => simp [intOf]; omega
              · obtain rfl : j = l + 1 - i := by omega
                have h3 := H3.out.new HWI.out
                have c1 := h3.c1
                have e41 : (q' : Int) - 1 = (q1 : Int) := by have h3 := HQ2.out; omega
                have hql := HIQ2.out.place
                have hqb := HIQ2.out.len
                have HND := hid (rNeed_any' h3 ob q1)
                have hji : ((i : Int) + ((l + 1 - i : Nat) : Int)) = (l : Int) + 1 := by omega
                clear h3 hwi hj
                go_wp2_with fail
                refine HND.out.mono ?_
                rintro e w5 ⟨rfl, h5, u5⟩
                have U4 := hid ((Upd.refl (· = R) wo).thenNew HWI.out)
                have U5 := hid (U4.out.trans u5 (fun _ _ h => h))
                have H5 := hid h5
                clear h5 u5 c1 e41 hji
                go_wp2_with fail
                go_roundg (l + 2 - (i + 1))
                case measure => have := HK.out; omega
                case rel =>
                  have hlen := HLEN.out
                  have h5 := H5.out
                  have U6 := U3.out.trans U5.out (fun _ _ h => h)
                  have hB := (U5.out.block _ HB3.out.lt (by omega)).trans HB3.out
                  have hby := HBY3.out.upd U5.out (fun g hg hh => by have := FR3.out g hg; omega)
                  have hfr := FR3.out
                  rw [hlen] at hby hfr
                  refine ⟨ds ++ [b], ⟨U6, hB, hby, hfr, ?_⟩⟩
                  rw [HLL.out, hlen]
                  cases ob with
                  | true =>
                    have hop := HOB.out.1 (by first | rfl | trivial)
                    have hm := NUB.out.1 (HOP.out.2 hop)
                    rw [HNUM.out, if_neg hb] at hm
                    obtain ⟨z, h1, h2, _⟩ := hop
                    refine .inl ⟨q', h5, HIQ2.out, by omega, rfl, ?_⟩
                    rw [show l + 1 - (i + 1) = n by have := HNN.out; omega]
                    exact hm.symm
                  | false =>
                    have hm := NUB.out.2 (fun h => by have := HOB.out.2 (HOP.out.1 h); simp at this)
                    rw [HNUM.out] at hm
                    exact .inr ⟨q', 2, q1, by decide, h5, hm, rfl, by omega⟩
      · have hne := he
        have HE := hid he
        have HR := hid hr
        have HO2 := hid ho
        have HG := hid (rNext_gone hr he)
        have c3 := hr.c3
        have hb : ((er : Int) != 0) = true := by rw [bne_iff_ne]; omega
        rw [HLL.out] at hl5
        obtain ⟨i, hi⟩ : ∃ i, ds.length = i := ⟨_, rfl⟩
        rw [hi] at hl5 ⊢
        have HII := hid hi
        clear he hr ho hi hk
        by_cases h5 : i < l + 1
        · have h5i : (i : Int) < (l : Int) + 1 := by omega
          go_wp2_with fail
          refine HG.out.mono ?_
          rintro e w2 ⟨rfl, rfl⟩
          unfold cb
          go_wp2_with fail
          go_ret
          exact RGot.mk_up [] HO2.out IR.out.up rfl HR.out
        · go_wp2_with fail
          go_meet
          exact ⟨IR.out.up, .inr ⟨p', er, sp, HE.out, HR.out, HO2.out⟩⟩
  case rest =>
    obtain ⟨hu, hz⟩ := hcut
    have HU := hid hu
    clear hu I0
    rcases hz with ⟨ds, q, ho, hby, hr⟩ | ⟨p', er, sp, he, hr, ho⟩
    · have HO2 := hid ho
      have HR := hid hr
      have c3 := hr.c3
      obtain ⟨s, x, hln, hs9, hgx, hx, hsv, hv1, hv2⟩ := sint_bd hb2 (HO.out.trans ho)
      have hsl : s < ds.length := by omega
      obtain ⟨av, cv, rfl, hcap, -, hcell⟩ := hby.rd
      obtain ⟨b, o, rfl, hce⟩ := hcell (by intro h; subst h; simp at hln)
      clear hcell hby
      have hcx := hce s hsl
      obtain ⟨hsl', hgx'⟩ := List.getElem?_eq_some_iff.1 hgx
      rw [hgx'] at hcx
      unfold cb at hcx
      have HCE := hid hce
      have HLN := hid hln
      have HSV := hid hsv
      have HVB : Hid (-9223372036854775808 ≤ sval ds ∧ sval ds < 9223372036854775808) := hid ⟨hv1, hv2⟩
      rw [hln]
      rw [hln] at hcap
      have e114 : (s : Int) + 1 - 1 = s := by omega
      clear hce hsv hv1 hv2 hgx hgx' hsl' hln ho hr
      generalize wc = w9 at *
      go_upto_if 119 with fail
      go_cut [15] (fun v wx => v = .int .i64 (top x.toNat) ∧ w9 = wx)
      case first =>
        by_cases h64 : 64 ≤ x.toNat
        · have HT : Hid (top x.toNat = (x.toNat : Int) - 128) := if_neg (by omega)
          go_wp2_with fail
          go_meet
          exact ⟨by rw [HT.out], rfl⟩
        · have HT : Hid (top x.toNat = (x.toNat : Int)) := if_pos (by omega)
          go_wp2_with fail
          go_meet
          exact ⟨by rw [HT.out], rfl⟩
      case rest =>
        obtain ⟨rfl, rfl⟩ := hcut
        clear hcx e114
        go_wp2_with fail
        go_loop [15, 16] (fun v c => ∃ (j : Nat) (z : Int), c = .int .i64 z ∧ j ≤ s ∧ z = (j : Int) - 1 ∧ v = .int .i64 (sval (ds.drop j))) (fun _ c => ((intOf c) + 1).toNat)
        case atStart => exact ⟨s, s + 1 - 2, rfl, Nat.le_refl _, by omega, by rw [HSV.out]⟩
        case round =>
          obtain ⟨j, z, rfl, hj, hz, rfl⟩ := hrel
          rcases j with _ | k
          · obtain rfl : z = -1 := by omega
            clear hz
            go_wp2_with fail
            go_ret
            exact RGot.mk_ok HO2.out HU.out (by unfold SintV; rfl) HR.out
          · obtain rfl : z = (k : Int) := by omega
            clear hz
            have hkl : k < ds.length := by omega
            have hck := HCE.out k hkl
            unfold cb at hck
            have hstep := sval_drop_step ds k (by have := HLN.out; omega)
            have hbd := sval_drop_bd ds HVB.out.1 HVB.out.2 k hkl
            have hy := u8_lt ds[k]
            have HT : Hid (.int .i64 (sval (ds.drop (k + 1)) * 128 + (ds[k].toNat : Int) % 128) = Value.int .i64 (sval (ds.drop k))) := by
              show Value.int .i64 _ = Value.int .i64 _
              rw [hstep]
              congr 1
              omega
            have hV : -72057594037927936 ≤ sval (ds.drop (k + 1)) ∧ sval (ds.drop (k + 1)) ≤ 72057594037927935 := by omega
            obtain ⟨hV1, hV2⟩ := hV
            clear hstep hbd
            generalize sval (ds.drop (k + 1)) = V at *
            generalize ds[k] = y at *
            go_wp2_with fail
            go_round
            case rel => exact ⟨k, k - 1, rfl, by omega, rfl, HT.out⟩
            case measure => simp [intOf]
    · have HE := hid he
      have HR := hid hr
      have HO2 := hid ho
      have c3 := hr.c3
      have hb : ((er : Int) != 0) = true := by rw [bne_iff_ne]; omega
      clear he hr ho
      go_wp2_with fail
      go_ret
      exact RGot.mk_up [] HO2.out HU.out rfl HR.out
end Go.Proofs.Ytkfohickmdkplaa
