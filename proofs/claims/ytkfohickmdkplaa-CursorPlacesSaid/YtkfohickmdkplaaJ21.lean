/-
  The document's reader: a number without a sign.
-/
import Derived.Test.YtkfohickmdkplaaJ14
import Derived.Test.YtkfohickmdkplaaJ20
namespace Go.Proofs.Ytkfohickmdkplaa
open Go.RowKit Go.Proofs.Leb Go.Proofs.Own Go.Proofs.Cur
set_option maxRecDepth 100000
set_option maxHeartbeats 4000000

theorem beh_iff {may : Int → Nat → Prop} (hneg : ∀ r n, may r n → 0 ≤ r) {lim : Int} {q low k j : Nat} (hq : lim = -1 ∨ rest lim q < 1099511627776) :
    fits may low k j (behD lim q j) ↔ (j : Int) ≤ rest lim q ∧ fits may low k j (behind (rest lim q) j) ∨ (lim = -1 ∧ fits may low k j (behD lim q j)) := by
  rcases hq with rfl | hq
  · simp only [true_and]
    constructor
    · intro h; exact .inr h
    · rintro (⟨_, h⟩ | h)
      · have e : behind (rest (-1) q) j = behD (-1) q j := by unfold behind behD rest; simp
        rw [e] at h; exact h
      · exact h
  · by_cases hl : lim = -1
    · subst hl; unfold rest at hq; simp at hq
    · have e : behD lim q j = rest lim q - j := by unfold behD; rw [if_neg hl]
      have e2 : behind (rest lim q) j = rest lim q - j := by unfold behind; rw [if_pos hq]
      rw [e, e2]
      constructor
      · intro h
        refine .inl ⟨?_, h⟩
        obtain ⟨n, hn, _⟩ := h
        have := hneg _ _ hn
        omega
      · rintro (⟨_, h⟩ | ⟨h, _⟩)
        · exact h
        · exact (hl h).elim

theorem may_neg (x : Wnt) (r : Int) (n : Nat) (h : x.may r n) : 0 ≤ r := h.1
/-- a digit that has others behind it, as the document asks -/
theorem open_iff (x : Wnt) {lim : Int} {q : Nat} (hq : lim = -1 ∨ (0 ≤ rest lim q ∧ rest lim q < 1099511627776)) (ds : List UInt8) (b : UInt8) (hb : ¬ b.toNat < 128) :
    mayU x.may ds b (rest lim q) ↔ ∃ j, 1 ≤ j ∧ j < 5 - ds.length ∧ fits x.may (val (ds ++ [b])) (ds.length + 1) j (behD lim q j) := by
  unfold mayU comes
  rw [if_neg hb]
  constructor
  · rintro ⟨j, h1, h2, h3, h4⟩
    refine ⟨j, h1, by omega, ?_⟩
    rcases hq with rfl | hq
    · have e : behind (rest (-1) q) j = behD (-1) q j := by unfold behind behD rest; simp
      rw [← e]; exact h4
    · rw [beh_iff (may_neg x) (.inr hq.2)]
      exact .inl ⟨h3, h4⟩
  · rintro ⟨j, h1, h2, h3⟩
    refine ⟨j, h1, by omega, ?_⟩
    rcases hq with rfl | hq
    · have e : behind (rest (-1) q) j = behD (-1) q j := by unfold behind behD rest; simp
      refine ⟨by unfold rest; simp; omega, by rw [e]; exact h3⟩
    · rw [beh_iff (may_neg x) (.inr hq.2)] at h3
      rcases h3 with h3 | ⟨rfl, _⟩
      · exact h3
      · unfold rest at hq; simp at hq
theorem shut_iff (x : Wnt) (r : Int) (ds : List UInt8) (b : UInt8) (hb : b.toNat < 128) : mayU x.may ds b r ↔ x.may r (val (ds ++ [b])) := by
  unfold mayU comes
  rw [if_pos hb]
  have hlt : val (ds ++ [b]) < 128 ^ (ds.length + 1) := by have := val_lt (ds ++ [b]); simpa using this
  refine (fits_zero hlt).trans ⟨fun h => h.1, fun h => ⟨h, h.2.1⟩⟩

theorem WantOk.upd {S : Nat → Prop} {x : Wnt} {pv : Value} {w w' : World} (h : WantOk x pv w) (hu : Upd S w w') (hv : x.picks ≠ [] → ∀ k, pv.ownBlock = some k → ¬ S k) : WantOk x pv w' := ⟨h.fine, h.kind, h.rd.upd hu hv, h.few, h.pos, h.num⟩
theorem nextO_er {bs : List UInt8} {lim : Int} {p q er : Nat} (h : nextO bs lim p = .up q er) : er ≠ 0 := by
  unfold nextO at h
  split at h
  · cases h; decide
  · split at h
    · cases h
    · cases h; decide
theorem nextO_ok {bs : List UInt8} {lim : Int} {p q : Nat} {x : UInt8} (h : nextO bs lim p = .ok x q) : q = p + 1 ∧ p < bs.length ∧ rest lim p ≠ 0 := by
  unfold nextO at h
  split at h
  · cases h
  · split at h
    · cases h; exact ⟨rfl, by assumption, by assumption⟩
    · cases h
theorem numO_next {bs : List UInt8} {lim : Int} {may : List UInt8 → UInt8 → Int → Prop} {n : Nat} {ds : List UInt8} {p : Nat} : (∀ q er, nextO bs lim p = .up q er → numO bs lim may (n + 1) ds p = .up q er) ∧
    (∀ x q, nextO bs lim p = .ok x q → (may ds x (rest lim q) → numO bs lim may (n + 1) ds p = if x.toNat < 128 then .ok (ds ++ [x]) q else numO bs lim may n (ds ++ [x]) q) ∧ (¬ may ds x (rest lim q) → numO bs lim may (n + 1) ds p = .up p 2)) := by
  constructor
  · intro q er h
    rw [numO_step, byte_next, h]; rfl
  · intro x q h
    constructor
    · intro hm
      rw [numO_step, byte_next, h]
      simp only
      rw [if_pos hm]; rfl
    · intro hm
      rw [numO_step, byte_next, h]
      simp only
      rw [if_neg hm]; rfl

/-- the inner loop: does any number of further bytes serve? -/
def Opens (x : Wnt) (lim : Int) (q low k : Nat) (j : Nat) : Prop := ∃ i, 1 ≤ i ∧ i < j ∧ fits x.may low k i (behD lim q i)

structure RInv (R : Nat) (B : ByteArray) (lim : Int) (x : Wnt) (O : Out (List UInt8)) (w : World) (Bw : Nat) (cs : Array Value) (ds : List UInt8) (wr : World) : Prop where
  up : Upd (· = R) w wr
  bx : wr.heap[Bw]? = some (.cells cs 47)
  st : (∃ q, Rdr wr R B q lim 0 0 ∧ Inv B.size lim q ∧ ds.length ≤ 4 ∧ numO B.data.toList lim (mayU x.may) (5 - ds.length) ds q = O) ∨ (∃ p' er sp, er ≠ 0 ∧ Rdr wr R B p' lim er sp ∧ O = .up sp er ∧ ds.length ≤ 5)

structure SR (a : World) (R Bw q : Nat) (cs : Array Value) (w' : World) : Prop where
  up : Upd (· = R) a w'
  c1 : w'.cell? ⟨R, 1, none⟩ = some (.int .i64 q)
  bx : w'.heap[Bw]? = some (.cells cs 47)
theorem SR.upd {a b c : World} {R Bw q : Nat} {cs : Array Value} (h : SR a R Bw q cs b) (hu : Upd (· = R) b c) (hne : Bw ≠ R) (h1 : c.cell? ⟨R, 1, none⟩ = some (.int .i64 q)) : SR a R Bw q cs c :=
  ⟨h.up.trans hu (fun _ _ h => h), h1, (hu.block _ (Array.getElem?_eq_some_iff.1 h.bx).1 hne).trans h.bx⟩
theorem SR.new {a b c : World} {R Bw q : Nat} {cs : Array Value} (h : SR a R Bw q cs b) (hn : New b c) : SR a R Bw q cs c :=
  ⟨h.up.thenNew hn, hn.cell h.c1 (fun h => h), (hn.block _ (Array.getElem?_eq_some_iff.1 h.bx).1 (fun h => h)).trans h.bx⟩

theorem rUint_any {w : World} {R : Nat} {B : ByteArray} {p : Nat} {lim : Int} (h : Rdr w R B p lim 0 0) (hi : Inv B.size lim p) (x : Wnt) (pv : Value) (hx : WantOk x pv w) (hpv : x.picks ≠ [] → ∀ k, pv.ownBlock = some k → k ≠ R) :
    Calls Try.prog 32 #[.pointer (some ⟨R, 0, none⟩), .agg (valW x pv)] w (RGot R B lim UintV (uintO B.data.toList lim x.may p) w) := by
  have HI := hid hi
  have H0 := hid h
  have HX := hid hx
  have HPV := hid hpv
  have hR := h.lt
  obtain ⟨O, hO⟩ : ∃ O, uintO B.data.toList lim x.may p = O := ⟨_, rfl⟩
  have HO := hid hO
  rw [hO]
  clear hi h hx hpv hO
  go_enter Try.func32, Try.ntmps32
  go_wp2_with fail
  have hnb : New w (w.alloc (.cells (valW x pv) 47)) := (Upd.refl _ _).alloc _
  have i0 : RInv R B lim x O w w.heap.size (valW x pv) [] (w.alloc (.cells (valW x pv) 47)) :=
    ⟨New.upd hnb, hp_new rfl, .inl ⟨p, H0.out.new hnb, HI.out, by simp, HO.out⟩⟩
  generalize w.alloc (.cells (valW x pv) 47) = w1 at *
  have I0 := hid i0
  clear i0 hnb
  go_loopg [5, 6, 7, 8, 9] 6 (fun k a b _ _ _ wr => ∃ ds : List UInt8, k = 6 - ds.length ∧ a = .int .u64 (val ds) ∧ b = .int .i64 ds.length ∧ RInv R B lim x O w w.heap.size (valW x pv) ds wr)
  case atStart => exact ⟨[], rfl, rfl, rfl, I0.out⟩
  case round =>
    obtain ⟨ds, rfl, rfl, rfl, hinv⟩ := hrel
    have IR := hid hinv
    clear hinv I0
    rcases IR.out.st with ⟨q, hq, hiq, hl4, hnum⟩ | ⟨p', er, sp, he, hr, ho, hl5⟩
    · obtain ⟨i, hi⟩ : ∃ i, ds.length = i := ⟨_, rfl⟩
      obtain ⟨v, hv⟩ : ∃ v, val ds = v := ⟨_, rfl⟩
      have hvlt : v < 128 ^ i := by rw [← hv, ← hi]; exact val_lt ds
      have hvb : v < 34359738368 := by
        have : (128 : Nat) ^ i ≤ 128 ^ 5 := Nat.pow_le_pow_right (by decide) (by omega)
        have h5 : (128 : Nat) ^ 5 = 34359738368 := by decide
        omega
      obtain ⟨n, hn⟩ : ∃ n, 5 - i = n + 1 := ⟨4 - i, by omega⟩
      rw [hi, hn] at hnum
      rw [hi] at hl4
      rw [hi, hv]
      have HNX := hid (rNext_any hq hiq)
      have HNUM := hid hnum
      have HII := hid hi
      have HVV := hid hv
      have HNN := hid hn
      have HIQ := hid hiq
      have NU := hid (numO_next (bs := B.data.toList) (lim := lim) (may := mayU x.may) (n := n) (ds := ds) (p := q))
      clear hnum hi hv hn hq hiq hvlt
      go_wp2_with fail
      refine HNX.out.mono ?_
      rintro e w2 ⟨hu2, hm2⟩
      have U2 := hid (IR.out.up.trans hu2 (fun _ _ h => h))
      cases ho : nextO B.data.toList lim q with
      | up q' er =>
        rw [ho] at hm2
        obtain ⟨a, p', rfl, hr2⟩ := hm2
        have HOU : Hid (O = .up q' er) := by show _ = _; rw [← HNUM.out]; exact NU.out.1 _ _ ho
        have hne := nextO_er ho
        have c3 := hr2.c3
        have hb : ((er : Int) != 0) = true := by rw [bne_iff_ne]; omega
        have HR2 := hid hr2
        clear ho hr2 hu2
        unfold cb
        go_wp2_with fail
        go_ret
        exact RGot.mk_up [] HOU.out U2.out rfl HR2.out
      | ok b q' =>
        rw [ho] at hm2
        obtain ⟨rfl, hr2⟩ := hm2
        have c3 := hr2.c3
        have hno := nextO_ok ho
        have NUB := hid (NU.out.2 _ _ ho)
        obtain ⟨hq1, hlt, hr0⟩ := hno
        have hiq' := HIQ.out.next hr0 (by rw [← size_list]; exact hlt)
        rw [← hq1] at hiq'
        have HQ1 := hid hq1
        have HIQ2 := hid hiq'
        have HR2 := hid hr2
        have hbx2 : w2.heap[w.heap.size]? = some (.cells (valW x pv) 47) := (hu2.block _ (Array.getElem?_eq_some_iff.1 IR.out.bx).1 (by omega)).trans IR.out.bx
        have HBX2 := hid hbx2
        have HW2 := hid (HX.out.upd U2.out (fun hne k hk => HPV.out hne k hk))
        have hrl : Hid (lim = -1 ∨ (0 ≤ rest lim q' ∧ rest lim q' < 1099511627776)) := by
          have h1 := HIQ.out.lim
          have h2 := hiq'.rest
          rcases h1 with h1 | h1
          · exact .inl h1
          · refine .inr ⟨h2.1, ?_⟩
            rw [hq1]
            unfold rest
            split <;> omega
        clear ho hr2 hu2 hiq' hbx2 hlt hr0 hq1
        obtain ⟨s, hs⟩ : ∃ s, val (ds ++ [b]) = s := ⟨_, rfl⟩
        obtain ⟨P, hP⟩ : ∃ P, 128 ^ i = P := ⟨_, rfl⟩
        obtain ⟨t, ht⟩ : ∃ t, b.toNat % 128 * P = t := ⟨_, rfl⟩
        have hst : v + t = s := by
          have := val_append ds [b]
          rw [hs, HVV.out, HII.out, hP] at this
          rw [this, ← ht, Nat.mul_comm]
          simp [val]
        have hsl : Hid (s < 128 ^ (i + 1)) := by
          have := val_lt (ds ++ [b])
          rw [hs] at this
          have hl : (ds ++ [b]).length = i + 1 := by rw [List.length_append, HII.out]; rfl
          rw [hl] at this
          exact this
        have hsb : s < 34359738368 := by
          have h1 := hsl.out
          have : (128 : Nat) ^ (i + 1) ≤ 128 ^ 5 := Nat.pow_le_pow_right (by decide) (by omega)
          have h5 : (128 : Nat) ^ 5 = 34359738368 := by decide
          omega
        have p1 : (2 : Int) ^ (7 * i) = P := by have := congrArg (fun z : Nat => (z : Int)) ((pow128 i).symm.trans hP); simpa using this
        have p2 : ((b.toNat : Int) % 128) * P = t := by rw [← ht]; simp
        have p3 : (v : Int) + t = s := by omega
        have hb256 := u8_lt b
        have HS := hid hs
        have HST := hid hst
        clear hs hP ht hst
        have hde := (show ((0 : Int) != 0) = false by decide)
        unfold cb
        by_cases hb : b.toNat < 128
        · have hbi : ((b.toNat : Int)) < 128 := by omega
          have HMY : Hid (∀ W, New w2 W → Calls Try.prog 62 #[.agg (valW x pv), .int .u64 s, .int .i64 (rest lim q')] W (Yes (x.may (rest lim q') s) W)) := fun W hW => (HW2.out.new hW).may s _ HIQ2.out.rest.2
          have HRS : Hid (∀ W, New w2 W → Calls Try.prog 38 #[.pointer (some ⟨R, 0, none⟩)] W fun e w' => e = .returned (.int .i64 (rest lim q')) ∧ New W w') := fun W hW => rRest_any (HR2.out.new hW) HIQ2.out
          have HSH : Hid (mayU x.may ds b (rest lim q') ↔ x.may (rest lim q') s) := by
            have := shut_iff x (rest lim q') ds b hb
            rw [HS.out] at this
            exact this
          generalize rest lim q' = r at *
          go_upto_region 10 with fail
          rw [p3]
          clear p1 p2 p3 hde c3
          have e41 : IntKind.i64.wrap ((q' : Int) - 1) = (q : Int) := by have h1 := HIQ2.out.place; have h2 := HIQ2.out.len; have h3 := HQ1.out; rw [IntWalk.i64_in _ (by omega)]; omega
          have hne : w.heap.size ≠ R := by omega
          have hnn : New w2 w2.drew := (Upd.refl _ _).drew
          have hn : SR w2 R w.heap.size q' (valW x pv) w2.drew := ⟨(Upd.refl _ _).drew, HR2.out.c1, HBX2.out⟩
          refine wp_region_noPanic ?_
          refine wp_region_held_drew (S := (SR w2 R w.heap.size q' (valW x pv))) (by kernel_rfl) (by first | exact hn | exact (Upd.refl _ _).drew | exact Upd.drew (by assumption)) (fun hn => ?_)
          generalize w2.drew = wd at *
          refine wpAnyH_take (i := 0) (oi := { dst := some 31, op := Op.move (Operand.tmp 0), type := 33, pos := "ref.go:171", after := #[], guard := none }) (v := ?v9x1) rfl (by kernel_rfl) (by kernel_rfl) (by kernel_rfl) (fun _ _ _ h => h) (Or.inl ⟨by rfl, ?y9x1⟩) hn ?r9x1
          case y9x1 => (intro wS hS; (try go_simp); (try with_reducible rfl))
          try simp only [Act.put, List.setIfInBounds_toArray, List.set_cons_zero, List.set_cons_succ]
          refine wpAnyH_take (i := 1) (oi := { dst := some 32, op := Op.load 47 (Operand.tmp 3), type := 47, pos := "ref.go:171", after := #[], guard := none }) (v := ?v9x2) rfl (by kernel_rfl) (by kernel_rfl) (by kernel_rfl) (fun _ _ _ h => h) (Or.inl ⟨by rfl, ?y9x2⟩) hn ?r9x2
          case y9x2 => (intro wS hS; rw [load_box (cs := valW x pv) (t := 47) (g := w.heap.size) rfl rfl hS.bx Try.underlying47 rfl infoW]; (try go_simp); (try with_reducible rfl))
          try simp only [Act.put, List.setIfInBounds_toArray, List.set_cons_zero, List.set_cons_succ]
          refine wpAnyH_take (i := 2) (oi := { dst := some 33, op := Op.move (Operand.tmp 5), type := 42, pos := "ref.go:171", after := #[], guard := none }) (v := ?v9x3) rfl (by kernel_rfl) (by kernel_rfl) (by kernel_rfl) (fun _ _ _ h => h) (Or.inl ⟨by rfl, ?y9x3⟩) hn ?r9x3
          case y9x3 => (intro wS hS; (try go_simp); (try with_reducible rfl))
          try simp only [Act.put, List.setIfInBounds_toArray, List.set_cons_zero, List.set_cons_succ]
          refine wpAnyH_take (i := 3) (oi := { dst := some 34, op := Op.move (Operand.tmp 0), type := 33, pos := "ref.go:171", after := #[], guard := none }) (v := ?v9x4) rfl (by kernel_rfl) (by kernel_rfl) (by kernel_rfl) (fun _ _ _ h => h) (Or.inl ⟨by rfl, ?y9x4⟩) hn ?r9x4
          case y9x4 => (intro wS hS; (try go_simp); (try with_reducible rfl))
          try simp only [Act.put, List.setIfInBounds_toArray, List.set_cons_zero, List.set_cons_succ]
          refine wpAnyH_take (i := 6) (oi := { dst := some 37, op := Op.move (Operand.tmp 0), type := 33, pos := "ref.go:171", after := #[], guard := none }) (v := ?v9x5) rfl (by kernel_rfl) (by kernel_rfl) (by kernel_rfl) (fun _ _ _ h => h) (Or.inl ⟨by rfl, ?y9x5⟩) hn ?r9x5
          case y9x5 => (intro wS hS; (try go_simp); (try with_reducible rfl))
          try simp only [Act.put, List.setIfInBounds_toArray, List.set_cons_zero, List.set_cons_succ]
          refine wpAnyH_take (i := 7) (oi := { dst := some 38, op := Op.nilCheck (Operand.tmp 37), type := 0, pos := "ref.go:171", after := #[{ on := 6, ground := Ground.data }], guard := none }) (v := ?v9x6) rfl (by kernel_rfl) (by kernel_rfl) (by kernel_rfl) (fun _ _ _ h => h) (Or.inl ⟨by rfl, ?y9x6⟩) hn ?r9x6
          case y9x6 => (intro wS hS; (try go_simp); (try with_reducible rfl))
          try simp only [Act.put, List.setIfInBounds_toArray, List.set_cons_zero, List.set_cons_succ]
          refine wpAnyH_take (i := 8) (oi := { dst := some 39, op := Op.fieldAddr 37 (Operand.tmp 38) 1, type := 0, pos := "ref.go:171", after := #[{ on := 7, ground := Ground.data }], guard := none }) (v := ?v9x7) rfl (by kernel_rfl) (by kernel_rfl) (by kernel_rfl) (fun _ _ _ h => h) (Or.inl ⟨by rfl, ?y9x7⟩) hn ?r9x7
          case y9x7 => (intro wS hS; (try go_simp); (try with_reducible rfl))
          try simp only [Act.put, List.setIfInBounds_toArray, List.set_cons_zero, List.set_cons_succ]
          refine wpAnyH_take (i := 9) (oi := { dst := some 40, op := Op.load 3 (Operand.tmp 39), type := 3, pos := "ref.go:171", after := #[{ on := 8, ground := Ground.data }], guard := none }) (v := ?v9x8) rfl (by kernel_rfl) (by kernel_rfl) (by kernel_rfl) (fun _ _ _ h => h) (Or.inl ⟨by rfl, ?y9x8⟩) hn ?r9x8
          case y9x8 => (intro wS hS; have c := hS.c1; (try go_simp); (try with_reducible rfl))
          try simp only [Act.put, List.setIfInBounds_toArray, List.set_cons_zero, List.set_cons_succ]
          refine wpAnyH_take (i := 10) (oi := { dst := some 41, op := Op.binOp BinOp.sub 3 (Operand.tmp 40) (Operand.const (Value.int IntKind.i64 1)) 3, type := 3, pos := "ref.go:171", after := #[{ on := 9, ground := Ground.data }], guard := none }) (v := ?v9x9) rfl (by kernel_rfl) (by kernel_rfl) (by kernel_rfl) (fun _ _ _ h => h) (Or.inl ⟨by rfl, ?y9x9⟩) hn ?r9x9
          case y9x9 => (intro wS hS; (try go_simp); (try with_reducible rfl))
          try simp only [Act.put, List.setIfInBounds_toArray, List.set_cons_zero, List.set_cons_succ]
          refine wpAnyH_ready (rs := [4]) (by kernel_rfl) (by simp) ?_
          refine AllReadyH.cons (o := { dst := some 35, op := Op.call { callee := Callee.value (Operand.func 38), args := #[Operand.tmp 34], argTypes := #[33] }, type := 3, pos := "ref.go:171", after := #[{ on := 3, ground := Ground.data }], guard := none }) rfl (fun K hK => ?_) AllReadyH.nil
          go_simp
          refine (HRS.out _ hnn).mono ?_
          rintro e wa ⟨rfl, hna⟩
          go_wp2_with fail
          have hn := hn.new hna
          have hnn := New.trans hnn hna
          refine hK.out _ _ (by first | exact hn | exact Upd.alloc hn _) (fun hn => ?_)
          clear hK K
          try simp only [Act.put, List.setIfInBounds_toArray, List.set_cons_zero, List.set_cons_succ]
          refine wpAnyH_ready (rs := [5]) (by kernel_rfl) (by simp) ?_
          refine AllReadyH.cons (o := { dst := some 36, op := Op.call { callee := Callee.value (Operand.func 62), args := #[Operand.tmp 32, Operand.tmp 33, Operand.tmp 35], argTypes := #[47, 42, 3] }, type := 4, pos := "ref.go:171", after := #[{ on := 1, ground := Ground.data }, { on := 2, ground := Ground.data }, { on := 4, ground := Ground.data }, { on := 4, ground := Ground.chain }], guard := none }) rfl (fun K hK => ?_) AllReadyH.nil
          go_simp
          refine (HMY.out _ hnn).mono ?_
          rintro e wb ⟨c, rfl, hc, hnb⟩
          have HC := hid hc
          clear hc
          go_wp2_with fail
          have hn := hn.new hnb
          have hnn := New.trans hnn hnb
          refine hK.out _ _ (by first | exact hn | exact Upd.alloc hn _) (fun hn => ?_)
          clear hK K
          try simp only [Act.put, List.setIfInBounds_toArray, List.set_cons_zero, List.set_cons_succ]
          refine wpAnyH_ready (rs := [11]) (by kernel_rfl) (by simp) ?_
          refine AllReadyH.cons (o := { dst := some 42, op := Op.call { callee := Callee.value (Operand.func 31), args := #[Operand.tmp 31, Operand.tmp 36, Operand.tmp 41], argTypes := #[33, 4, 3] }, type := 0, pos := "ref.go:171", after := #[{ on := 0, ground := Ground.data }, { on := 5, ground := Ground.data }, { on := 10, ground := Ground.data }, { on := 5, ground := Ground.chain }], guard := none }) rfl (fun K hK => ?_) AllReadyH.nil
          go_simp
          refine (rNeed_any' (HR2.out.new hnn) c q).mono ?_
          rintro e wc ⟨rfl, h5, u5⟩
          have H5 := hid h5
          go_wp2_with fail
          have hn := hn.upd u5 hne h5.c1
          clear h5
          refine hK.out _ _ (by first | exact hn | exact Upd.alloc hn _) (fun hn => ?_)
          clear hK K
          try simp only [Act.put, List.setIfInBounds_toArray, List.set_cons_zero, List.set_cons_succ]
          refine wpAnyH_done (by kernel_rfl) ?_ _
          refine NoPanic.normal ?_
          have hF : Hid (if c = true then O = .ok (ds ++ [b]) q' else O = .up q 2) := by
            show if c = true then _ else _
            cases c with
            | true =>
              have := NUB.out.1 (HSH.out.2 (HC.out.1 rfl))
              rw [HNUM.out, if_pos hb] at this
              exact this
            | false =>
              have := NUB.out.2 (fun h => by have := HC.out.2 (HSH.out.1 h); simp at this)
              rw [HNUM.out] at this
              exact this
          have U5 := hid (U2.out.trans hn.up (fun _ _ h => h))
          have hV : Hid (Value.int .u32 (s : Nat) = Value.int .u32 (s : Nat)) := hid rfl
          have hsm : s % 4294967296 = s ∨ c = false := by
            cases c with
            | true =>
              have := (HC.out.1 rfl).2.1
              exact .inl (Nat.mod_eq_of_lt this)
            | false => exact .inr rfl
          have HSM := hid hsm
          clear hn hnn hna hnb e41 hsm u5
          go_wp2_with fail
          go_ret
          have h5 := H5.out
          have hf := hF.out
          cases c with
          | true => exact RGot.mk_ok hf U5.out (by unfold UintV; rw [HS.out]; first | rfl | (congr 2; omega) | simp) h5
          | false => exact RGot.mk_up (ds ++ [b]) hf U5.out (by unfold UintV; rw [HS.out]; first | rfl | (congr 2; omega) | simp) h5
        · have hbi : ¬ ((b.toNat : Int)) < 128 := by omega
          have HOP : Hid (mayU x.may ds b (rest lim q') ↔ Opens x lim q' s (i + 1) (5 - i)) := by
            have := open_iff x hrl.out ds b hb
            rw [HS.out, HII.out] at this
            exact this
          have HCO : Hid (∀ j : Nat, 1 ≤ j → i + j < 5 → ∀ W, New w2 W → Calls Try.prog 63 #[.agg (valW x pv), .int .u64 s, .int .i64 (7 * (i + 1) : Nat), .int .i64 j, .int .i64 (behD lim q' j)] W (Yes (fits x.may s (i + 1) j (behD lim q' j)) W)) :=
            fun j h1 h2 W hW => Comes_any x pv s (i + 1) j _ W (HW2.out.new hW) (by have := HIQ2.out.rest; unfold behD; split <;> omega) (by omega) (by omega) hsl.out
          have HBE : Hid (∀ j : Nat, j ≤ 5 → ∀ W, New w2 W → Calls Try.prog 64 #[.pointer (some ⟨R, 0, none⟩), .int .i64 j] W fun e w' => e = .returned (.int .i64 (behD lim q' j)) ∧ New W w') :=
            fun j h1 W hW => rBehind_any (HR2.out.new hW) HIQ2.out j (by omega) (by omega)
          go_wp2_with fail
          rw [p3]
          clear p1 p2 p3 hde c3
          obtain ⟨wo, rfl⟩ : ∃ wo, wo = w2 := ⟨_, rfl⟩
          go_loopw [8, 9] (fun o a wi => ∃ (j : Nat) (ob : Bool), o = .bool ob ∧ a = .int .i64 j ∧ 1 ≤ j ∧ i + j ≤ 5 ∧ New wo wi ∧ (ob = true ↔ Opens x lim q' s (i + 1) j)) (fun _ a _ => 5 - i - (intOf a).toNat)
          case atStart => exact ⟨1, false, rfl, rfl, Nat.le_refl _, by omega, Upd.refl _ _, by simp only [Bool.false_eq_true, false_iff]; rintro ⟨z, h1, h2, _⟩; omega⟩
          case round =>
            obtain ⟨j, ob, rfl, rfl, hj1, hj5, hwi, hob⟩ := hrel
            obtain ⟨wi, rfl⟩ : ∃ wi : World, wi = wr := ⟨_, rfl⟩
            have HWI := hid hwi
            have HOB := hid hob
            clear hob
            by_cases hj : i + j < 5
            · cases ob with
              | true =>
                go_upto_region 16 with fail
                have hn : New wi wi.drew := (Upd.refl _ _).drew
                refine wp_region_noPanic ?_
                refine wp_region_held_drew (S := (New wi)) (by kernel_rfl) (by first | exact hn | exact (Upd.refl _ _).drew | exact Upd.drew (by assumption)) (fun hn => ?_)
                refine wpAnyH_take (i := 0) (oi := { dst := some 51, op := Op.move (Operand.tmp 8), type := 4, pos := "ref.go:176", after := #[], guard := none }) (v := ?v10x1) rfl (by kernel_rfl) (by kernel_rfl) (by kernel_rfl) (fun _ _ _ h => h) (Or.inl ⟨by rfl, ?y10x1⟩) hn ?r10x1
                case y10x1 => (intro wS hS; (try go_simp); (try with_reducible rfl))
                try simp only [Act.put, List.setIfInBounds_toArray, List.set_cons_zero, List.set_cons_succ]
                refine wpAnyH_take (i := 1) (oi := { dst := some 52, op := Op.move (Operand.tmp 51), type := 4, pos := "ref.go:176", after := #[{ on := 0, ground := Ground.data }], guard := none }) (v := ?v10x2) rfl (by kernel_rfl) (by kernel_rfl) (by kernel_rfl) (fun _ _ _ h => h) (Or.inl ⟨by rfl, ?y10x2⟩) hn ?r10x2
                case y10x2 => (intro wS hS; (try go_simp); (try with_reducible rfl))
                try simp only [Act.put, List.setIfInBounds_toArray, List.set_cons_zero, List.set_cons_succ]
                refine wpAnyH_take (i := 2) (oi := { dst := some 53, op := Op.load 47 (Operand.tmp 3), type := 47, pos := "ref.go:176", after := #[{ on := 1, ground := Ground.guard }], guard := some (1, false) }) (v := undef) rfl (by kernel_rfl) (by kernel_rfl) (by kernel_rfl) (fun _ _ _ h => h) (Or.inr ⟨by rfl, rfl⟩) hn ?_
                try simp only [Act.put, List.setIfInBounds_toArray, List.set_cons_zero, List.set_cons_succ]
                refine wpAnyH_take (i := 3) (oi := { dst := some 54, op := Op.move (Operand.tmp 5), type := 42, pos := "ref.go:176", after := #[{ on := 1, ground := Ground.guard }], guard := some (1, false) }) (v := undef) rfl (by kernel_rfl) (by kernel_rfl) (by kernel_rfl) (fun _ _ _ h => h) (Or.inr ⟨by rfl, rfl⟩) hn ?_
                try simp only [Act.put, List.setIfInBounds_toArray, List.set_cons_zero, List.set_cons_succ]
                refine wpAnyH_take (i := 4) (oi := { dst := some 55, op := Op.move (Operand.tmp 6), type := 3, pos := "ref.go:176", after := #[{ on := 1, ground := Ground.guard }], guard := some (1, false) }) (v := undef) rfl (by kernel_rfl) (by kernel_rfl) (by kernel_rfl) (fun _ _ _ h => h) (Or.inr ⟨by rfl, rfl⟩) hn ?_
                try simp only [Act.put, List.setIfInBounds_toArray, List.set_cons_zero, List.set_cons_succ]
                refine wpAnyH_take (i := 5) (oi := { dst := some 56, op := Op.binOp BinOp.mul 3 (Operand.const (Value.int IntKind.i64 7)) (Operand.tmp 55) 3, type := 3, pos := "ref.go:176", after := #[{ on := 4, ground := Ground.data }, { on := 1, ground := Ground.guard }], guard := some (1, false) }) (v := undef) rfl (by kernel_rfl) (by kernel_rfl) (by kernel_rfl) (fun _ _ _ h => h) (Or.inr ⟨by rfl, rfl⟩) hn ?_
                try simp only [Act.put, List.setIfInBounds_toArray, List.set_cons_zero, List.set_cons_succ]
                refine wpAnyH_take (i := 6) (oi := { dst := some 57, op := Op.binOp BinOp.add 3 (Operand.tmp 56) (Operand.const (Value.int IntKind.i64 7)) 3, type := 3, pos := "ref.go:176", after := #[{ on := 5, ground := Ground.data }, { on := 1, ground := Ground.guard }], guard := some (1, false) }) (v := undef) rfl (by kernel_rfl) (by kernel_rfl) (by kernel_rfl) (fun _ _ _ h => h) (Or.inr ⟨by rfl, rfl⟩) hn ?_
                try simp only [Act.put, List.setIfInBounds_toArray, List.set_cons_zero, List.set_cons_succ]
                refine wpAnyH_take (i := 7) (oi := { dst := some 58, op := Op.move (Operand.tmp 9), type := 3, pos := "ref.go:176", after := #[{ on := 1, ground := Ground.guard }], guard := some (1, false) }) (v := undef) rfl (by kernel_rfl) (by kernel_rfl) (by kernel_rfl) (fun _ _ _ h => h) (Or.inr ⟨by rfl, rfl⟩) hn ?_
                try simp only [Act.put, List.setIfInBounds_toArray, List.set_cons_zero, List.set_cons_succ]
                refine wpAnyH_take (i := 8) (oi := { dst := some 59, op := Op.move (Operand.tmp 0), type := 33, pos := "ref.go:176", after := #[{ on := 1, ground := Ground.guard }], guard := some (1, false) }) (v := undef) rfl (by kernel_rfl) (by kernel_rfl) (by kernel_rfl) (fun _ _ _ h => h) (Or.inr ⟨by rfl, rfl⟩) hn ?_
                try simp only [Act.put, List.setIfInBounds_toArray, List.set_cons_zero, List.set_cons_succ]
                refine wpAnyH_take (i := 9) (oi := { dst := some 60, op := Op.move (Operand.tmp 9), type := 3, pos := "ref.go:176", after := #[{ on := 1, ground := Ground.guard }], guard := some (1, false) }) (v := undef) rfl (by kernel_rfl) (by kernel_rfl) (by kernel_rfl) (fun _ _ _ h => h) (Or.inr ⟨by rfl, rfl⟩) hn ?_
                try simp only [Act.put, List.setIfInBounds_toArray, List.set_cons_zero, List.set_cons_succ]
                refine wpAnyH_take (i := 10) (oi := { dst := some 61, op := Op.call { callee := Callee.value (Operand.func 64), args := #[Operand.tmp 59, Operand.tmp 60], argTypes := #[33, 3] }, type := 3, pos := "ref.go:176", after := #[{ on := 8, ground := Ground.data }, { on := 9, ground := Ground.data }, { on := 1, ground := Ground.chain }, { on := 1, ground := Ground.guard }], guard := some (1, false) }) (v := undef) rfl (by kernel_rfl) (by kernel_rfl) (by kernel_rfl) (fun _ _ _ h => h) (Or.inr ⟨by rfl, rfl⟩) hn ?_
                try simp only [Act.put, List.setIfInBounds_toArray, List.set_cons_zero, List.set_cons_succ]
                refine wpAnyH_take (i := 11) (oi := { dst := some 62, op := Op.call { callee := Callee.value (Operand.func 63), args := #[Operand.tmp 53, Operand.tmp 54, Operand.tmp 57, Operand.tmp 58, Operand.tmp 61], argTypes := #[47, 42, 3, 3, 3] }, type := 4, pos := "ref.go:176", after := #[{ on := 2, ground := Ground.data }, { on := 3, ground := Ground.data }, { on := 6, ground := Ground.data }, { on := 7, ground := Ground.data }, { on := 10, ground := Ground.data }, { on := 10, ground := Ground.chain }, { on := 1, ground := Ground.guard }], guard := some (1, false) }) (v := undef) rfl (by kernel_rfl) (by kernel_rfl) (by kernel_rfl) (fun _ _ _ h => h) (Or.inr ⟨by rfl, rfl⟩) hn ?_
                try simp only [Act.put, List.setIfInBounds_toArray, List.set_cons_zero, List.set_cons_succ]
                refine wpAnyH_take (i := 12) (oi := { dst := some 63, op := Op.pick (Operand.tmp 52) (Operand.const (Value.bool true)) (Operand.tmp 62), type := 4, pos := "ref.go:176", after := #[{ on := 1, ground := Ground.data }, { on := 11, ground := Ground.data }], guard := none }) (v := ?v10x13) rfl (by kernel_rfl) (by kernel_rfl) (by kernel_rfl) (fun _ _ _ h => h) (Or.inl ⟨by rfl, ?y10x13⟩) hn ?r10x13
                case y10x13 => (intro wS hS; (try go_simp); (try with_reducible rfl))
                try simp only [Act.put, List.setIfInBounds_toArray, List.set_cons_zero, List.set_cons_succ]
                refine wpAnyH_take (i := 13) (oi := { dst := some 8, op := Op.assign (Operand.tmp 63), type := 4, pos := "ref.go:176", after := #[{ on := 12, ground := Ground.data }, { on := 11, ground := Ground.chain }, { on := 0, ground := Ground.phase }, { on := 1, ground := Ground.phase }, { on := 2, ground := Ground.phase }, { on := 3, ground := Ground.phase }, { on := 4, ground := Ground.phase }, { on := 5, ground := Ground.phase }, { on := 6, ground := Ground.phase }, { on := 7, ground := Ground.phase }, { on := 8, ground := Ground.phase }, { on := 9, ground := Ground.phase }, { on := 10, ground := Ground.phase }, { on := 11, ground := Ground.phase }, { on := 12, ground := Ground.phase }], guard := none }) (v := ?v10x14) rfl (by kernel_rfl) (by kernel_rfl) (by kernel_rfl) (fun _ _ _ h => h) (Or.inl ⟨by rfl, ?y10x14⟩) hn ?r10x14
                case y10x14 => (intro wS hS; (try go_simp); (try with_reducible rfl))
                try simp only [Act.put, List.setIfInBounds_toArray, List.set_cons_zero, List.set_cons_succ]
                refine wpAnyH_done (by kernel_rfl) ?_ _
                refine NoPanic.normal ?_
                go_wp2_with fail
                go_roundw
                case rel =>
                  refine ⟨j + 1, true, rfl, by go_num, by omega, by omega, New.trans HWI.out hn, ?_⟩
                  obtain ⟨z, h1, h2, h3⟩ := HOB.out.1 (by first | rfl | trivial)
                  simp only [true_iff]
                  exact ⟨z, h1, by omega, h3⟩
                case measure => simp [intOf]; omega
              | false =>
                go_upto_region 16 with fail
                have hnn : New wo wi.drew := New.trans hwi ((Upd.refl _ _).drew)
                have hn : New wi wi.drew := (Upd.refl _ _).drew
                have hbxi : Hid (∀ W, New wi W → W.heap[w.heap.size]? = some (.cells (valW x pv) 47)) := fun W hW => ((New.trans HWI.out hW).block _ (Array.getElem?_eq_some_iff.1 HBX2.out).1 (fun h => h)).trans HBX2.out
                have e56 : IntKind.i64.wrap (7 * (i : Int)) = 7 * (i : Int) := IntWalk.i64_in _ (by omega)
                have e57 : IntKind.i64.wrap (7 * (i : Int) + 7) = ((7 * (i + 1) : Nat) : Int) := by rw [IntWalk.i64_in _ (by omega)]; omega
                clear hwi
                refine wp_region_noPanic ?_
                refine wp_region_held_drew (S := (New wi)) (by kernel_rfl) (by first | exact hn | exact (Upd.refl _ _).drew | exact Upd.drew (by assumption)) (fun hn => ?_)
                generalize wi.drew = wd at *
                refine wpAnyH_take (i := 0) (oi := { dst := some 51, op := Op.move (Operand.tmp 8), type := 4, pos := "ref.go:176", after := #[], guard := none }) (v := ?v11x1) rfl (by kernel_rfl) (by kernel_rfl) (by kernel_rfl) (fun _ _ _ h => h) (Or.inl ⟨by rfl, ?y11x1⟩) hn ?r11x1
                case y11x1 => (intro wS hS; (try go_simp); (try with_reducible rfl))
                try simp only [Act.put, List.setIfInBounds_toArray, List.set_cons_zero, List.set_cons_succ]
                refine wpAnyH_take (i := 1) (oi := { dst := some 52, op := Op.move (Operand.tmp 51), type := 4, pos := "ref.go:176", after := #[{ on := 0, ground := Ground.data }], guard := none }) (v := ?v11x2) rfl (by kernel_rfl) (by kernel_rfl) (by kernel_rfl) (fun _ _ _ h => h) (Or.inl ⟨by rfl, ?y11x2⟩) hn ?r11x2
                case y11x2 => (intro wS hS; (try go_simp); (try with_reducible rfl))
                try simp only [Act.put, List.setIfInBounds_toArray, List.set_cons_zero, List.set_cons_succ]
                refine wpAnyH_take (i := 2) (oi := { dst := some 53, op := Op.load 47 (Operand.tmp 3), type := 47, pos := "ref.go:176", after := #[{ on := 1, ground := Ground.guard }], guard := some (1, false) }) (v := ?v11x3) rfl (by kernel_rfl) (by kernel_rfl) (by kernel_rfl) (fun _ _ _ h => h) (Or.inl ⟨by rfl, ?y11x3⟩) hn ?r11x3
                case y11x3 => (intro wS hS; rw [load_box (cs := valW x pv) (t := 47) (g := w.heap.size) rfl rfl (hbxi.out _ hS) Try.underlying47 rfl infoW]; (try go_simp); (try with_reducible rfl))
                try simp only [Act.put, List.setIfInBounds_toArray, List.set_cons_zero, List.set_cons_succ]
                refine wpAnyH_take (i := 3) (oi := { dst := some 54, op := Op.move (Operand.tmp 5), type := 42, pos := "ref.go:176", after := #[{ on := 1, ground := Ground.guard }], guard := some (1, false) }) (v := ?v11x4) rfl (by kernel_rfl) (by kernel_rfl) (by kernel_rfl) (fun _ _ _ h => h) (Or.inl ⟨by rfl, ?y11x4⟩) hn ?r11x4
                case y11x4 => (intro wS hS; (try go_simp); (try with_reducible rfl))
                try simp only [Act.put, List.setIfInBounds_toArray, List.set_cons_zero, List.set_cons_succ]
                refine wpAnyH_take (i := 4) (oi := { dst := some 55, op := Op.move (Operand.tmp 6), type := 3, pos := "ref.go:176", after := #[{ on := 1, ground := Ground.guard }], guard := some (1, false) }) (v := ?v11x5) rfl (by kernel_rfl) (by kernel_rfl) (by kernel_rfl) (fun _ _ _ h => h) (Or.inl ⟨by rfl, ?y11x5⟩) hn ?r11x5
                case y11x5 => (intro wS hS; (try go_simp); (try with_reducible rfl))
                try simp only [Act.put, List.setIfInBounds_toArray, List.set_cons_zero, List.set_cons_succ]
                refine wpAnyH_take (i := 5) (oi := { dst := some 56, op := Op.binOp BinOp.mul 3 (Operand.const (Value.int IntKind.i64 7)) (Operand.tmp 55) 3, type := 3, pos := "ref.go:176", after := #[{ on := 4, ground := Ground.data }, { on := 1, ground := Ground.guard }], guard := some (1, false) }) (v := ?v11x6) rfl (by kernel_rfl) (by kernel_rfl) (by kernel_rfl) (fun _ _ _ h => h) (Or.inl ⟨by rfl, ?y11x6⟩) hn ?r11x6
                case y11x6 => (intro wS hS; (try go_simp); (try with_reducible rfl))
                try simp only [Act.put, List.setIfInBounds_toArray, List.set_cons_zero, List.set_cons_succ]
                refine wpAnyH_take (i := 6) (oi := { dst := some 57, op := Op.binOp BinOp.add 3 (Operand.tmp 56) (Operand.const (Value.int IntKind.i64 7)) 3, type := 3, pos := "ref.go:176", after := #[{ on := 5, ground := Ground.data }, { on := 1, ground := Ground.guard }], guard := some (1, false) }) (v := ?v11x7) rfl (by kernel_rfl) (by kernel_rfl) (by kernel_rfl) (fun _ _ _ h => h) (Or.inl ⟨by rfl, ?y11x7⟩) hn ?r11x7
                case y11x7 => (intro wS hS; (try go_simp); (try with_reducible rfl))
                try simp only [Act.put, List.setIfInBounds_toArray, List.set_cons_zero, List.set_cons_succ]
                refine wpAnyH_take (i := 7) (oi := { dst := some 58, op := Op.move (Operand.tmp 9), type := 3, pos := "ref.go:176", after := #[{ on := 1, ground := Ground.guard }], guard := some (1, false) }) (v := ?v11x8) rfl (by kernel_rfl) (by kernel_rfl) (by kernel_rfl) (fun _ _ _ h => h) (Or.inl ⟨by rfl, ?y11x8⟩) hn ?r11x8
                case y11x8 => (intro wS hS; (try go_simp); (try with_reducible rfl))
                try simp only [Act.put, List.setIfInBounds_toArray, List.set_cons_zero, List.set_cons_succ]
                refine wpAnyH_take (i := 8) (oi := { dst := some 59, op := Op.move (Operand.tmp 0), type := 33, pos := "ref.go:176", after := #[{ on := 1, ground := Ground.guard }], guard := some (1, false) }) (v := ?v11x9) rfl (by kernel_rfl) (by kernel_rfl) (by kernel_rfl) (fun _ _ _ h => h) (Or.inl ⟨by rfl, ?y11x9⟩) hn ?r11x9
                case y11x9 => (intro wS hS; (try go_simp); (try with_reducible rfl))
                try simp only [Act.put, List.setIfInBounds_toArray, List.set_cons_zero, List.set_cons_succ]
                refine wpAnyH_take (i := 9) (oi := { dst := some 60, op := Op.move (Operand.tmp 9), type := 3, pos := "ref.go:176", after := #[{ on := 1, ground := Ground.guard }], guard := some (1, false) }) (v := ?v11x10) rfl (by kernel_rfl) (by kernel_rfl) (by kernel_rfl) (fun _ _ _ h => h) (Or.inl ⟨by rfl, ?y11x10⟩) hn ?r11x10
                case y11x10 => (intro wS hS; (try go_simp); (try with_reducible rfl))
                try simp only [Act.put, List.setIfInBounds_toArray, List.set_cons_zero, List.set_cons_succ]
                refine wpAnyH_ready (rs := [10]) (by kernel_rfl) (by simp) ?_
                refine AllReadyH.cons (o := { dst := some 61, op := Op.call { callee := Callee.value (Operand.func 64), args := #[Operand.tmp 59, Operand.tmp 60], argTypes := #[33, 3] }, type := 3, pos := "ref.go:176", after := #[{ on := 8, ground := Ground.data }, { on := 9, ground := Ground.data }, { on := 1, ground := Ground.chain }, { on := 1, ground := Ground.guard }], guard := some (1, false) }) rfl (fun K hK => ?_) AllReadyH.nil
                go_simp
                refine (HBE.out j (by omega) _ hnn).mono ?_
                rintro e wa ⟨rfl, hna⟩
                go_wp2_with fail
                have hn := New.trans hn hna
                have hnn := New.trans hnn hna
                refine hK.out _ _ (by first | exact hn | exact Upd.alloc hn _) (fun hn => ?_)
                clear hK K
                try simp only [Act.put, List.setIfInBounds_toArray, List.set_cons_zero, List.set_cons_succ]
                refine wpAnyH_ready (rs := [11]) (by kernel_rfl) (by simp) ?_
                refine AllReadyH.cons (o := { dst := some 62, op := Op.call { callee := Callee.value (Operand.func 63), args := #[Operand.tmp 53, Operand.tmp 54, Operand.tmp 57, Operand.tmp 58, Operand.tmp 61], argTypes := #[47, 42, 3, 3, 3] }, type := 4, pos := "ref.go:176", after := #[{ on := 2, ground := Ground.data }, { on := 3, ground := Ground.data }, { on := 6, ground := Ground.data }, { on := 7, ground := Ground.data }, { on := 10, ground := Ground.data }, { on := 10, ground := Ground.chain }, { on := 1, ground := Ground.guard }], guard := some (1, false) }) rfl (fun K hK => ?_) AllReadyH.nil
                go_simp
                refine (HCO.out j hj1 hj _ hnn).mono ?_
                rintro e wb ⟨c, rfl, hc, hnb⟩
                have HC := hid hc
                clear hc
                go_wp2_with fail
                have hn := New.trans hn hnb
                have hnn := New.trans hnn hnb
                refine hK.out _ _ (by first | exact hn | exact Upd.alloc hn _) (fun hn => ?_)
                clear hK K
                try simp only [Act.put, List.setIfInBounds_toArray, List.set_cons_zero, List.set_cons_succ]
                refine wpAnyH_take (i := 12) (oi := { dst := some 63, op := Op.pick (Operand.tmp 52) (Operand.const (Value.bool true)) (Operand.tmp 62), type := 4, pos := "ref.go:176", after := #[{ on := 1, ground := Ground.data }, { on := 11, ground := Ground.data }], guard := none }) (v := ?v11x11) rfl (by kernel_rfl) (by kernel_rfl) (by kernel_rfl) (fun _ _ _ h => h) (Or.inl ⟨by rfl, ?y11x11⟩) hn ?r11x11
                case y11x11 => (intro wS hS; (try go_simp); (try with_reducible rfl))
                try simp only [Act.put, List.setIfInBounds_toArray, List.set_cons_zero, List.set_cons_succ]
                refine wpAnyH_take (i := 13) (oi := { dst := some 8, op := Op.assign (Operand.tmp 63), type := 4, pos := "ref.go:176", after := #[{ on := 12, ground := Ground.data }, { on := 11, ground := Ground.chain }, { on := 0, ground := Ground.phase }, { on := 1, ground := Ground.phase }, { on := 2, ground := Ground.phase }, { on := 3, ground := Ground.phase }, { on := 4, ground := Ground.phase }, { on := 5, ground := Ground.phase }, { on := 6, ground := Ground.phase }, { on := 7, ground := Ground.phase }, { on := 8, ground := Ground.phase }, { on := 9, ground := Ground.phase }, { on := 10, ground := Ground.phase }, { on := 11, ground := Ground.phase }, { on := 12, ground := Ground.phase }], guard := none }) (v := ?v11x12) rfl (by kernel_rfl) (by kernel_rfl) (by kernel_rfl) (fun _ _ _ h => h) (Or.inl ⟨by rfl, ?y11x12⟩) hn ?r11x12
                case y11x12 => (intro wS hS; (try go_simp); (try with_reducible rfl))
                try simp only [Act.put, List.setIfInBounds_toArray, List.set_cons_zero, List.set_cons_succ]
                refine wpAnyH_done (by kernel_rfl) ?_ _
                refine NoPanic.normal ?_
                go_wp2_with fail
                go_roundw
                case rel =>
                  refine ⟨j + 1, c, rfl, by go_num, by omega, by omega, hnn, ?_⟩
                  rw [HC.out]
                  constructor
                  · intro h; exact ⟨j, hj1, by omega, h⟩
                  · rintro ⟨z, h1, h2, h3⟩
                    rcases Nat.lt_or_ge z j with h4 | h4
                    · have := HOB.out.2 ⟨z, h1, h4, h3⟩
                      simp at this
                    · have : z = j := by omega
                      subst this
                      exact h3
                case measure => simp [intOf]; omega
            · obtain rfl : j = 5 - i := by omega
              have h3 := HR2.out.new HWI.out
              have c1 := h3.c1
              have e41 : (q' : Int) - 1 = (q : Int) := by have h3 := HQ1.out; omega
              have hql := HIQ2.out.place
              have hqb := HIQ2.out.len
              have HND := hid (rNeed_any' h3 ob q)
              have hji : ((i : Int) + ((5 - i : Nat) : Int)) = 5 := by omega
              clear h3 hwi
              go_wp2_with fail
              refine HND.out.mono ?_
              rintro e w5 ⟨rfl, h5, u5⟩
              have U5 := hid ((U2.out.thenNew HWI.out).trans u5 (fun _ _ h => h))
              have HBX5 : Hid (w5.heap[w.heap.size]? = some (.cells (valW x pv) 47)) := (u5.block _ (by have := (Array.getElem?_eq_some_iff.1 HBX2.out).1; have := HWI.out.size; omega) (by omega)).trans ((HWI.out.block _ (Array.getElem?_eq_some_iff.1 HBX2.out).1 (fun h => h)).trans HBX2.out)
              have H5 := hid h5
              clear h5 u5 c1 e41 hji
              go_wp2_with fail
              have hlen : (ds ++ [b]).length = i + 1 := by rw [List.length_append, HII.out]; rfl
              go_roundg (6 - (i + 1))
              case measure => rw [HII.out]; omega
              case rel =>
                refine ⟨ds ++ [b], by rw [hlen], by rw [HS.out], by rw [hlen]; go_num, U5.out, HBX5.out, ?_⟩
                have h5 := H5.out
                cases ob with
                | true =>
                  have hop := HOB.out.1 (by first | rfl | trivial)
                  have hm := NUB.out.1 (HOP.out.2 hop)
                  rw [HNUM.out, if_neg hb] at hm
                  obtain ⟨z, h1, h2, _⟩ := hop
                  refine .inl ⟨q', h5, HIQ2.out, by rw [hlen]; omega, ?_⟩
                  rw [hlen, show 5 - (i + 1) = n by have := HNN.out; omega]
                  exact hm.symm
                | false =>
                  have hm := NUB.out.2 (fun h => by have := HOB.out.2 (HOP.out.1 h); simp at this)
                  rw [HNUM.out] at hm
                  exact .inr ⟨q', 2, q, by decide, h5, hm, by rw [hlen]; omega⟩
    · have hne := he
      have HE := hid he
      have HR := hid hr
      have HO2 := hid ho
      have HG := hid (rNext_gone hr he)
      have c3 := hr.c3
      have hb : ((er : Int) != 0) = true := by rw [bne_iff_ne]; omega
      clear he hr ho
      by_cases h5 : ds.length < 5
      · go_wp2_with fail
        refine HG.out.mono ?_
        rintro e w2 ⟨rfl, rfl⟩
        unfold cb
        go_wp2_with fail
        go_ret
        exact RGot.mk_up [] HO2.out IR.out.up rfl HR.out
      · go_wp2_with fail
        go_ret
        exact RGot.mk_up [] HO2.out IR.out.up rfl HR.out
end Go.Proofs.Ytkfohickmdkplaa
