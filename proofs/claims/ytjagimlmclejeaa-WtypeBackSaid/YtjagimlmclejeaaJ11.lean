/-
  The cursor: a number without a sign, read.
-/
import Derived.Test.YtjagimlmclejeaaJ10
import Derived.StillTailTactics
namespace Go.Proofs.Ytjagimlmclejeaa
open Go.RowKit Go.Proofs.Leb Go.Proofs.Own Go.Proofs.Cur
set_option maxRecDepth 100000
set_option maxHeartbeats 4000000

theorem numO_step {bs : List UInt8} {lim : Int} {may : List UInt8 → UInt8 → Int → Prop} {n : Nat} {ds : List UInt8} {p : Nat} :
    numO bs lim may (n + 1) ds p = (byteO bs lim (may ds) p).bind fun x q => if x.toNat < 128 then .ok (ds ++ [x]) q else numO bs lim may n (ds ++ [x]) q := rfl
theorem byteO_ok {bs : List UInt8} {lim : Int} {may : UInt8 → Int → Prop} {p q : Nat} {x : UInt8} (h : byteO bs lim may p = .ok x q) :
    q = p + 1 ∧ p < bs.length ∧ rest lim p ≠ 0 ∧ bs[p]? = some x ∧ may x (rest lim (p + 1)) := by
  unfold byteO at h
  split at h
  · cases h
  · split at h
    · rename_i h1 h2
      split at h
      · cases h
        exact ⟨rfl, h2, h1, List.getElem?_eq_getElem h2, by assumption⟩
      · cases h
    · cases h
theorem byteO_inv {bs : List UInt8} {lim : Int} {may : UInt8 → Int → Prop} {p q : Nat} {x : UInt8} (hi : Inv bs.length lim p) (h : byteO bs lim may p = .ok x q) : Inv bs.length lim q := by
  obtain ⟨rfl, h1, h2, -⟩ := byteO_ok h
  exact hi.next h2 h1

def UintV (ds : List UInt8) : Value := .int .u32 (val ds % 4294967296 : Nat)

structure UInv (C : Nat) (v : Value) (bs : List UInt8) (lim : Int) (S : Int → Nat → Prop) (O : Out (List UInt8)) (want : Value) (w : World) (ds : List UInt8) (xv g q : Nat) (wr : World) : Prop where
  up : Upd (· = C) w wr
  cur : Cur wr C v bs q lim 0
  inv : Inv bs.length lim q
  kg : One1 wr g (.int .i64 ds.length)
  kv : One1 wr (w.heap.size + 1) (.int .u64 (vm ds : Nat))
  kw : One1 wr w.heap.size want
  ge : w.heap.size + 1 < g
  len : ds.length ≤ 5
  go : 128 ≤ xv → ds.length ≤ 4 ∧ numO bs lim (mayU S) (5 - ds.length) ds q = O
  st : xv < 128 → O = .ok ds q

theorem Uint_any {w : World} {C : Nat} {v : Value} {bs : List UInt8} {p : Nat} {lim : Int} (h : Cur w C v bs p lim 0) (hi : Inv bs.length lim p) (Gw : Nat) (cw : Array Value) (hG : Enters Gw)
    (W : Int → List (Nat × Nat)) (hW : ∀ r' w1, Upd (· = C) w w1 → 0 ≤ r' → r' ≤ 1099511627776 → Wants Gw cw W r' w1) (hF : ∀ r, Few (W r)) :
    Calls Try.prog 72 #[.pointer (some ⟨C, 0, none⟩), .func (.func Gw) #[] cw] w (Got C v bs lim UintV (uintO bs lim (inW W) p) w) := by
  have HG := hid hG
  have HW := hid hW
  have HF := hid hF
  have HI := hid hi
  have H0 := hid h
  have hC := h.lt
  obtain ⟨O, hO⟩ : ∃ O, uintO bs lim (inW W) p = O := ⟨_, rfl⟩
  have HO := hid hO
  rw [hO]
  clear hG hW hF hi h hO
  go_enter Try.func72, Try.ntmps72
  go_wp2_with fail
  have i0 : UInv C v bs lim (inW W) O (.func (.func Gw) #[] cw) w [] 128 (w.heap.size + 1 + 1) p (((w.alloc (.cells #[.func (.func Gw) #[] cw] 104)).alloc (.cells #[.int .u64 0] 78)).alloc (.cells #[.int .i64 0] 3)) := by
    refine ⟨(((Upd.refl _ _).alloc _).alloc _).alloc _, H0.out.new ((((Upd.refl _ _).alloc _).alloc _).alloc _), HI.out, .mk (by simp), (One1.mk (by simp)).push _, ((One1.mk rfl).push _).push _, by omega, by simp, fun _ => ⟨by simp, HO.out⟩, fun h => absurd h (by decide)⟩
  generalize ((w.alloc (.cells #[.func (.func Gw) #[] cw] 104)).alloc (.cells #[.int .u64 0] 78)).alloc (.cells #[.int .i64 0] 3) = w0 at *
  have I0 := hid i0
  clear i0
  go_loopg [6, 7, 8, 9] 6 (fun n kp x _ _ wr => ∃ (ds : List UInt8) (xv g q : Nat), n = 6 - ds.length ∧ kp = .pointer (some ⟨g, 0, none⟩) ∧ x = .int .u8 xv ∧ UInv C v bs lim (inW W) O (.func (.func Gw) #[] cw) w ds xv g q wr)
  case atStart => exact ⟨[], 128, _, p, rfl, rfl, rfl, I0.out⟩
  case round =>
    obtain ⟨ds, xv, g, q, rfl, rfl, rfl, hi⟩ := hrel
    have IR := hid hi
    clear hi I0
    by_cases h128 : 128 ≤ xv
    · obtain ⟨hl4, hnum⟩ := IR.out.go h128
      have hd : decide ((128 : Int) ≤ (xv : Int)) = true := by simp; omega
      obtain ⟨k, hk⟩ : ∃ k, ds.length = k := ⟨_, rfl⟩
      obtain ⟨n, hn⟩ : ∃ n, 5 - k = n + 1 := ⟨4 - k, by omega⟩
      rw [hk, hn, numO_step] at hnum
      have HNUM := hid hnum
      have HK := hid hk
      have HNN := hid hn
      rw [hk] at hl4
      have HB := hid (Byte_any IR.out.cur IR.out.inv 79 #[.pointer (some ⟨w.heap.size + 1, 0, none⟩), .pointer (some ⟨g, 0, none⟩), .pointer (some ⟨w.heap.size, 0, none⟩)] (fun _ _ => rfl) (mayU (inW W) ds)
        (fun hp w1 hu hc r0 r1 => Uint1_any ds bs[q] w.heap.size (w.heap.size + 1) g (rest lim (q + 1)) Gw cw HG.out W w1 (by rw [hk]; exact hl4) r0 r1 (IR.out.kw.upd hu (by omega)).c (IR.out.kv.upd hu (by omega)).c
          (IR.out.kg.upd hu (by have := IR.out.ge; omega)).c (fun r' w2 hn2 h0 h1 => HW.out r' w2 ((IR.out.up.trans hu (fun _ _ h => h)).thenNew hn2) h0 h1) HF.out))
      clear hnum hk hn
      have hmf : ∀ (fn : Fn) (first cap : Array Value) (w : World), (Instr.makeFunc fn first cap).run Try.prog w = .ok (.func fn first cap) w := fun _ _ _ _ => rfl
      go_wp2_with fail
      refine HB.out.mono ?_
      rintro e w4 ⟨hu4, hm4⟩
      have HU4 := hid hu4
      cases ho : byteO bs lim (mayU (inW W) ds) q with
      | up q' er =>
        rw [ho] at hm4
        obtain ⟨rfl, hc4⟩ := hm4
        have HO4 : Hid (O = .up q' er) := by show _ = _; rw [← HNUM.out, ho]; rfl
        have HC4 := hid hc4
        clear ho hc4 hu4 HNUM
        go_wp2_with fail
        exact ⟨rfl, Got.mk_up HO4.out (IR.out.up.trans HU4.out (fun _ _ h => h)) rfl HC4.out⟩
      | ok x q' =>
        rw [ho] at hm4
        obtain ⟨rfl, hc4⟩ := hm4
        have hbi := byteO_inv IR.out.inv ho
        have hbo := byteO_ok ho
        have HNUM4 : Hid ((if x.toNat < 128 then Out.ok (ds ++ [x]) q' else numO bs lim (mayU (inW W)) n (ds ++ [x]) q') = O) := by
          show _ = _
          rw [← HNUM.out, ho]; rfl
        have HBI := hid hbi
        have HBO := hid hbo
        have HC4 := hid hc4
        have kg4 := IR.out.kg.upd hu4 (by have := IR.out.ge; omega)
        have kv4 := IR.out.kv.upd hu4 (by omega)
        have kw4 := IR.out.kw.upd hu4 (by omega)
        rw [HK.out] at kg4
        have hor := digit_or' ds x (by rw [HK.out]; omega)
        rw [HK.out] at hor
        obtain ⟨v0, hv0⟩ : ∃ v0, vm ds = v0 := ⟨_, rfl⟩
        obtain ⟨v1, hv1⟩ : ∃ v1, vm (ds ++ [x]) = v1 := ⟨_, rfl⟩
        rw [hv0] at kv4 hor
        rw [hv1, show 7 * k = (7 * (k : Int)).toNat by omega] at hor
        have e1 : IntKind.i64.wrap (7 * (k : Int)) = 7 * (k : Int) := IntWalk.i64_in _ (by omega)
        have HV1 := hid hv1
        have zg := kg4.c
        have zv := kv4.c
        have fv := kv4.f
        have hx := u8_lt x
        have HKG := hid kg4
        have HKV := hid kv4
        have HKW := hid kw4
        have hge := IR.out.ge
        clear ho hc4 hu4 hbi hbo kg4 kv4 kw4 hv0 hv1 HNUM
        unfold cb
        go_wp2_with fail
        go_still_tail 8, (by kernel_rfl)
        have kg5 : One1 w4.drew g (.int .i64 k) := HKG.out
        have kv5 : One1 w4.drew (w.heap.size + 1) (.int .u64 v0) := HKV.out
        have kw5 : One1 w4.drew w.heap.size (.func (.func Gw) #[] cw) := HKW.out
        have c5 : Cur w4.drew C v bs q' lim 0 := HC4.out.new ((Upd.refl _ _).drew)
        have u5 : Upd (· = C) w w4.drew := (IR.out.up.trans HU4.out (fun _ _ h => h)).drew
        change wpList _ _ _ _ _ w4.drew
        generalize w4.drew = w5 at *
        have kv6 : One1 (w5.setCell ⟨w.heap.size + 1, 0, none⟩ (.int .u64 v1)) (w.heap.size + 1) (.int .u64 v1) := kv5.put
        have kg6 : One1 (w5.setCell ⟨w.heap.size + 1, 0, none⟩ (.int .u64 v1)) g (.int .i64 k) := kg5.other (by simp; omega)
        have kw6 : One1 (w5.setCell ⟨w.heap.size + 1, 0, none⟩ (.int .u64 v1)) w.heap.size (.func (.func Gw) #[] cw) := kw5.other (by simp)
        have u6 : Upd (· = C) w (w5.setCell ⟨w.heap.size + 1, 0, none⟩ (.int .u64 v1)) := u5.setCell (.inl (by simp)) _
        have b6 : (w5.setCell ⟨w.heap.size + 1, 0, none⟩ (.int .u64 v1)).heap[C]? = w5.heap[C]? := Below.heap_setCell _ _ _ _ (by simp; omega)
        have c6 : Cur (w5.setCell ⟨w.heap.size + 1, 0, none⟩ (.int .u64 v1)) C v bs q' lim 0 := H0.out.upd1 u6 (b6.trans c5.blk)
        obtain ⟨w6, h6⟩ : ∃ w6, w5.setCell ⟨w.heap.size + 1, 0, none⟩ (.int .u64 v1) = w6 := ⟨_, rfl⟩
        rw [h6] at kv6 kg6 kw6 u6 c6
        have zv5 := kv5.c
        have fv5 := kv5.f
        have zg6 := kg6.c
        have KV6 := hid kv6
        have KW6 := hid kw6
        have U6 := hid u6
        have C6 := hid c6
        clear kg5 kv5 kw5 c5 u5 kv6 kg6 kw6 u6 c6 b6 zv zg fv hor e1
        go_wp2_with fail
        go_roundg (6 - (k + 1))
        case measure => rw [HK.out]; omega
        case rel =>
          have hlen : (ds ++ [x]).length = k + 1 := by rw [List.length_append, HK.out]; rfl
          refine ⟨ds ++ [x], x.toNat, w6.heap.size, q', by rw [hlen], rfl, rfl, ?_⟩
          refine ⟨U6.out.alloc _, C6.out.new ((Upd.refl _ _).alloc _), HBI.out, ?_, ?_, KW6.out.push _, ?_, by rw [hlen]; omega, ?_, ?_⟩
          · rw [hlen]; exact One1.mk rfl
          · rw [HV1.out]; exact KV6.out.push _
          · exact KV6.out.lt
          · intro h
            have h4 : k < 4 := by
              rcases Nat.lt_or_ge k 4 with h' | h'
              · exact h'
              · have := mayU_last (by rw [HK.out]; exact h') HBO.out.2.2.2.2
                omega
            rw [hlen]
            refine ⟨by omega, ?_⟩
            have := HNUM4.out
            rw [if_neg (by omega)] at this
            rw [show 5 - (k + 1) = n by have := HNN.out; omega]
            exact this
          · intro h
            have := HNUM4.out
            rw [if_pos h] at this
            exact this.symm
    · have hd : decide ((128 : Int) ≤ (xv : Int)) = false := by simp; omega
      have hst := IR.out.st (by omega)
      have HST := hid hst
      have zv := IR.out.kv.c
      obtain ⟨v0, hv0⟩ : ∃ v0, vm ds = v0 := ⟨_, rfl⟩
      have hv1 : v0 = val ds := by rw [← hv0]; exact vm_val (by have := IR.out.len; omega)
      rw [hv0] at zv
      have HV1 := hid hv1
      clear hst hv0 hv1
      go_wp2_with fail
      go_ret
      refine Got.mk_ok HST.out IR.out.up ?_ IR.out.cur
      rw [HV1.out]
      unfold UintV
      first | rfl | (congr 2; omega)
end Go.Proofs.Ytjagimlmclejeaa

namespace Go.Proofs.Ytjagimlmclejeaa
open Go.RowKit Go.Proofs.Leb Go.Proofs.Own Go.Proofs.Cur
set_option maxRecDepth 100000
set_option maxHeartbeats 4000000

/-- what is done with a cursor comes to this, in memory -/
def Did (C : Nat) (v : Value) (bs : List UInt8) (lim : Int) (o : Out Unit) (w : World) (e : Ending) : Prop := match o with
  | .ok _ q => e = .returned (.tuple #[]) ∧ Cur w C v bs q lim 0
  | .up q er => e = .panicked [{ v := gave C, recovered := false }] ∧ Cur w C v bs q lim er

/-- as far as a limit: all must be read -/
def withinO (lim : Int) (o : Out Unit) : Out Unit := match o with
  | .ok _ q => if rest lim q = 0 then .ok () q else .up q 2
  | .up q er => .up q er
def limO (n lim : Int) (p : Nat) : Int := p + min (max n 0) (rest lim p)

theorem limO_inv {len : Nat} {lim n : Int} {p : Nat} (hi : Inv len lim p) : Inv len (limO n lim p) p := by
  have h := hi.rest
  refine ⟨hi.place, hi.len, .inr ?_⟩
  unfold limO
  omega

theorem Within1_any (Bo Bc C : Nat) (outer : Int) (l0 : Value) (u : FrameMode) (w : World) (ho : w.cell? ⟨Bo, 0, none⟩ = some (.int .i64 outer)) (hc : w.cell? ⟨Bc, 0, none⟩ = some (.pointer (some ⟨C, 0, none⟩)))
    (hl : w.cell? ⟨C, 2, none⟩ = some l0) (hf : w.frozen? ⟨C, 2, none⟩ = false) :
    CallsD Try.prog 53 #[.pointer (some ⟨Bo, 0, none⟩), .pointer (some ⟨Bc, 0, none⟩)] u w fun e u' w' => u' = u ∧ (e = .returned (.tuple #[]) ∧ w' = w.setCell ⟨C, 2, none⟩ (.int .i64 outer)) := by
  go_enter_d Try.func53, Try.ntmps53
  go_wp2
  go_end0
  exact ⟨rfl, rfl⟩

def SW (a : World) (C Bc p : Nat) (w' : World) : Prop := Upd (· = C) a w' ∧ w'.cell? ⟨C, 1, none⟩ = some (.int .i64 p) ∧ w'.cell? ⟨Bc, 0, none⟩ = some (.pointer (some ⟨C, 0, none⟩))

theorem SW.new {a b c : World} {C Bc p : Nat} (h : SW a C Bc p b) (hn : New b c) : SW a C Bc p c := ⟨h.1.thenNew hn, hn.cell h.2.1 (fun h => h), hn.cell h.2.2 (fun h => h)⟩
theorem SW.put {a b : World} {C Bc p : Nat} (h : SW a C Bc p b) (hne : Bc ≠ C) (u : Value) : SW a C Bc p (b.setCell ⟨C, 2, none⟩ u) := by
  have n1 : (⟨C, 2, none⟩ : Addr) ≠ ⟨C, 1, none⟩ := by intro e; cases e
  have n2 : (⟨C, 2, none⟩ : Addr) ≠ ⟨Bc, 0, none⟩ := by intro e; cases e
  exact ⟨h.1.trans (updC _ _ _ _) (fun _ _ h => h), (World.cell?_setCell_other _ _ _ _ n1).trans h.2.1, (World.cell?_setCell_other _ _ _ _ n2).trans h.2.2⟩
theorem lim2_same {w : World} {C : Nat} {v : Value} {bs : List UInt8} {p : Nat} {lim : Int} {er : Nat} (h : Cur w C v bs p lim er) (q : Int) : Cur (w.setCell ⟨C, 2, none⟩ (.int .i64 q)) C v bs p q er := (h.lim2 q).1

theorem Within_any {w : World} {C : Nat} {v : Value} {bs : List UInt8} {p : Nat} {lim : Int} (h : Cur w C v bs p lim 0) (hi : Inv bs.length lim p) (n : Int) (hn1 : -9223372036854775808 ≤ n) (hn2 : n ≤ 9223372036854775807) (G : Nat) (cap : Array Value) (hG : Enters G)
    (S : Nat → Prop) (hS : ∀ k, S k → k < w.heap.size) (o : Out Unit) (K : World → Prop) (hK : ∀ a b, Upd (· = C) a b → K a → K b)
    (hin : ∀ q, o = .ok () q → Inv bs.length (limO n lim p) q)
    (hdo : ∀ w1, Upd (· = C) w w1 → Cur w1 C v bs p (limO n lim p) 0 → Calls Try.prog G cap w1 fun e w2 => Upd (fun k => k = C ∨ S k) w1 w2 ∧ Did C v bs (limO n lim p) o w2 e ∧ K w2) :
    Calls Try.prog 32 #[.pointer (some ⟨C, 0, none⟩), .int .i64 n, .func (.func G) #[] cap] w
      (fun e w' => Upd (fun k => k = C ∨ S k) w w' ∧ Did C v bs lim (withinO (limO n lim p) o) w' e ∧ K w') := by
  have HI := hid hi
  have HG := hid hG
  have HLI := limO_inv (n := n) hi
  have ip := hi.place
  have il := hi.len
  obtain ⟨r, hr⟩ : ∃ r : Nat, rest lim p = r := ⟨(rest lim p).toNat, by have := hi.rest; omega⟩
  have hr2 : r ≤ 1099511627776 := by have := hi.rest; omega
  obtain ⟨m, hm⟩ : ∃ m : Nat, max n 0 = m := ⟨(max n 0).toNat, by omega⟩
  obtain ⟨M, hM⟩ : ∃ M : Nat, min m r = M := ⟨_, rfl⟩
  have hlm : limO n lim p = p + M := by unfold limO; rw [hr, hm]; omega
  rw [hlm] at hdo hin HLI ⊢
  have HDO := hid hdo
  have HK := hid hK
  have HSS := hid hS
  have HIN := hid hin
  have H0 := hid h
  have hC := h.lt
  have HRR : Hid (∀ w2, New w w2 → Calls Try.prog 54 #[.pointer (some ⟨C, 0, none⟩)] w2 fun e w' => e = .returned (.int .i64 r) ∧ New w2 w') := by
    intro w2 hn
    have := Rest_any (h.new hn) hi
    rw [hr] at this
    exact this
  have HM := hid hM
  have HMM := hid hm
  have HLI' := hid HLI
  clear HLI
  have hmf : ∀ (fn : Fn) (first cap : Array Value) (w : World), (Instr.makeFunc fn first cap).run Try.prog w = .ok (.func fn first cap) w := fun _ _ _ _ => rfl
  clear hi hG hdo hK hS hin hr hm hM hlm
  go_enter_defers Try.func32, Try.ntmps32
  go_wp2_with fail
  refine (goOn_any (H0.out.new ((Upd.refl _ _).alloc _))).mono ?_
  rintro e w' ⟨rfl, rfl⟩
  have c2 := h.c2
  go_wp2_with fail
  have hn1 : New w ((w.alloc (.cells #[.pointer (some ⟨C, 0, none⟩)] 62)).alloc (.cells #[.int .i64 lim] 3)) := ((Upd.refl _ _).alloc _).alloc _
  have hb : One1 ((w.alloc (.cells #[.pointer (some ⟨C, 0, none⟩)] 62)).alloc (.cells #[.int .i64 lim] 3)) w.heap.size (.pointer (some ⟨C, 0, none⟩)) := (One1.mk rfl).push _
  have ho : One1 ((w.alloc (.cells #[.pointer (some ⟨C, 0, none⟩)] 62)).alloc (.cells #[.int .i64 lim] 3)) (w.heap.size + 1) (.int .i64 lim) := One1.mk (by simp)
  generalize (w.alloc (.cells #[.pointer (some ⟨C, 0, none⟩)] 62)).alloc (.cells #[.int .i64 lim] 3) = w1 at *
  have h1 := H0.out.new hn1
  have HB := hid hb
  have HOU := hid ho
  have H1 := hid h1
  have hnn : New w w1.drew := hn1.drew
  have hn : SW w1 C w.heap.size p w1.drew := ⟨(Upd.refl _ _).drew, h1.c1, hb.c⟩
  have em : (if n < 0 then (0 : Int) else n) = (m : Int) := by have := HMM.out; split <;> omega
  have eM : (if r < m then (r : Int) else (m : Int)) = (M : Int) := by have := HM.out; split <;> omega
  have ea : IntKind.i64.wrap ((p : Int) + (M : Int)) = (p : Int) + (M : Int) := by have := HM.out; rw [IntWalk.i64_in _ (by omega)]
  clear hn1 hb ho h1 c2 h
  refine wp_region_noPanic ?_
  refine wp_region_held_drew (S := (SW w1 C w.heap.size p)) (by kernel_rfl) (by first | exact hn | exact (Upd.refl _ _).drew | exact Upd.drew (by assumption)) (fun hn => ?_)
  generalize w1.drew = wd at *
  refine wpAnyH_take (i := 0) (oi := { dst := some 14, op := Op.load 62 (Operand.tmp 3), type := 62, pos := "cursor.go:146", after := #[], guard := none }) (v := ?v1x1) rfl (by kernel_rfl) (by kernel_rfl) (by kernel_rfl) (fun _ _ _ h => h) (Or.inl ⟨by rfl, ?y1x1⟩) hn ?r1x1
  case y1x1 => (intro wS hS; have c := hS.2.2; (try go_simp); (try with_reducible rfl))
  try simp only [Act.put, List.setIfInBounds_toArray, List.set_cons_zero, List.set_cons_succ]
  refine wpAnyH_take (i := 1) (oi := { dst := some 15, op := Op.load 62 (Operand.tmp 3), type := 62, pos := "cursor.go:146", after := #[], guard := none }) (v := ?v1x2) rfl (by kernel_rfl) (by kernel_rfl) (by kernel_rfl) (fun _ _ _ h => h) (Or.inl ⟨by rfl, ?y1x2⟩) hn ?r1x2
  case y1x2 => (intro wS hS; have c := hS.2.2; (try go_simp); (try with_reducible rfl))
  try simp only [Act.put, List.setIfInBounds_toArray, List.set_cons_zero, List.set_cons_succ]
  refine wpAnyH_take (i := 2) (oi := { dst := some 16, op := Op.nilCheck (Operand.tmp 15), type := 0, pos := "cursor.go:146", after := #[{ on := 1, ground := Ground.data }], guard := none }) (v := ?v1x3) rfl (by kernel_rfl) (by kernel_rfl) (by kernel_rfl) (fun _ _ _ h => h) (Or.inl ⟨by rfl, ?y1x3⟩) hn ?r1x3
  case y1x3 => (intro wS hS; (try go_simp); (try with_reducible rfl))
  try simp only [Act.put, List.setIfInBounds_toArray, List.set_cons_zero, List.set_cons_succ]
  refine wpAnyH_take (i := 3) (oi := { dst := some 17, op := Op.fieldAddr 83 (Operand.tmp 16) 1, type := 0, pos := "cursor.go:146", after := #[{ on := 2, ground := Ground.data }], guard := none }) (v := ?v1x4) rfl (by kernel_rfl) (by kernel_rfl) (by kernel_rfl) (fun _ _ _ h => h) (Or.inl ⟨by rfl, ?y1x4⟩) hn ?r1x4
  case y1x4 => (intro wS hS; (try go_simp); (try with_reducible rfl))
  try simp only [Act.put, List.setIfInBounds_toArray, List.set_cons_zero, List.set_cons_succ]
  refine wpAnyH_take (i := 4) (oi := { dst := some 18, op := Op.load 3 (Operand.tmp 17), type := 3, pos := "cursor.go:146", after := #[{ on := 3, ground := Ground.data }], guard := none }) (v := ?v1x5) rfl (by kernel_rfl) (by kernel_rfl) (by kernel_rfl) (fun _ _ _ h => h) (Or.inl ⟨by rfl, ?y1x5⟩) hn ?r1x5
  case y1x5 => (intro wS hS; have c := hS.2.1; (try go_simp); (try with_reducible rfl))
  try simp only [Act.put, List.setIfInBounds_toArray, List.set_cons_zero, List.set_cons_succ]
  refine wpAnyH_take (i := 5) (oi := { dst := some 19, op := Op.move (Operand.tmp 1), type := 3, pos := "cursor.go:146", after := #[], guard := none }) (v := ?v1x6) rfl (by kernel_rfl) (by kernel_rfl) (by kernel_rfl) (fun _ _ _ h => h) (Or.inl ⟨by rfl, ?y1x6⟩) hn ?r1x6
  case y1x6 => (intro wS hS; (try go_simp); (try with_reducible rfl))
  try simp only [Act.put, List.setIfInBounds_toArray, List.set_cons_zero, List.set_cons_succ]
  refine wpAnyH_take (i := 6) (oi := { dst := some 20, op := Op.call { callee := Callee.builtin Builtin.max, args := #[Operand.tmp 19, Operand.const (Value.int IntKind.i64 0)], argTypes := #[3, 3] }, type := 3, pos := "cursor.go:146", after := #[{ on := 5, ground := Ground.data }], guard := none }) (v := ?v1x7) rfl (by kernel_rfl) (by kernel_rfl) (by kernel_rfl) (fun _ _ _ h => h) (Or.inl ⟨by rfl, ?y1x7⟩) hn ?r1x7
  case y1x7 => (intro wS hS; (try go_simp); (try with_reducible rfl))
  try simp only [Act.put, List.setIfInBounds_toArray, List.set_cons_zero, List.set_cons_succ]
  refine wpAnyH_take (i := 7) (oi := { dst := some 21, op := Op.load 62 (Operand.tmp 3), type := 62, pos := "cursor.go:146", after := #[], guard := none }) (v := ?v1x8) rfl (by kernel_rfl) (by kernel_rfl) (by kernel_rfl) (fun _ _ _ h => h) (Or.inl ⟨by rfl, ?y1x8⟩) hn ?r1x8
  case y1x8 => (intro wS hS; have c := hS.2.2; (try go_simp); (try with_reducible rfl))
  try simp only [Act.put, List.setIfInBounds_toArray, List.set_cons_zero, List.set_cons_succ]
  refine wpAnyH_ready (rs := [8]) (by kernel_rfl) (by simp) ?_
  refine AllReadyH.cons (o := { dst := some 22, op := Op.call { callee := Callee.value (Operand.func 54), args := #[Operand.tmp 21], argTypes := #[62] }, type := 3, pos := "cursor.go:146", after := #[{ on := 7, ground := Ground.data }], guard := none }) rfl (fun K hK => ?_) AllReadyH.nil
  go_simp
  refine (HRR.out _ hnn).mono ?_
  rintro e wa ⟨rfl, hna⟩
  go_wp2_with fail
  have hn := hn.new hna
  have hnn := New.trans hnn hna
  refine hK.out _ _ (by first | exact hn | exact Upd.alloc hn _) (fun hn => ?_)
  clear hK K
  try simp only [Act.put, List.setIfInBounds_toArray, List.set_cons_zero, List.set_cons_succ]
  refine wpAnyH_take (i := 9) (oi := { dst := some 23, op := Op.call { callee := Callee.builtin Builtin.min, args := #[Operand.tmp 20, Operand.tmp 22], argTypes := #[3, 3] }, type := 3, pos := "cursor.go:146", after := #[{ on := 6, ground := Ground.data }, { on := 8, ground := Ground.data }], guard := none }) (v := ?v1x9) rfl (by kernel_rfl) (by kernel_rfl) (by kernel_rfl) (fun _ _ _ h => h) (Or.inl ⟨by rfl, ?y1x9⟩) hn ?r1x9
  case y1x9 => (intro wS hS; (try go_simp); (try with_reducible rfl))
  try simp only [Act.put, List.setIfInBounds_toArray, List.set_cons_zero, List.set_cons_succ]
  refine wpAnyH_take (i := 10) (oi := { dst := some 24, op := Op.binOp BinOp.add 3 (Operand.tmp 18) (Operand.tmp 23) 3, type := 3, pos := "cursor.go:146", after := #[{ on := 4, ground := Ground.data }, { on := 9, ground := Ground.data }], guard := none }) (v := ?v1x10) rfl (by kernel_rfl) (by kernel_rfl) (by kernel_rfl) (fun _ _ _ h => h) (Or.inl ⟨by rfl, ?y1x10⟩) hn ?r1x10
  case y1x10 => (intro wS hS; (try go_simp); (try with_reducible rfl))
  try simp only [Act.put, List.setIfInBounds_toArray, List.set_cons_zero, List.set_cons_succ]
  refine wpAnyH_take (i := 11) (oi := { dst := some 25, op := Op.nilCheck (Operand.tmp 14), type := 0, pos := "cursor.go:146", after := #[{ on := 0, ground := Ground.data }, { on := 0, ground := Ground.phase }, { on := 1, ground := Ground.phase }, { on := 2, ground := Ground.phase }, { on := 3, ground := Ground.phase }, { on := 4, ground := Ground.phase }, { on := 5, ground := Ground.phase }, { on := 6, ground := Ground.phase }, { on := 7, ground := Ground.phase }, { on := 8, ground := Ground.phase }, { on := 9, ground := Ground.phase }, { on := 10, ground := Ground.phase }], guard := none }) (v := ?v1x11) rfl (by kernel_rfl) (by kernel_rfl) (by kernel_rfl) (fun _ _ _ h => h) (Or.inl ⟨by rfl, ?y1x11⟩) hn ?r1x11
  case y1x11 => (intro wS hS; (try go_simp); (try with_reducible rfl))
  try simp only [Act.put, List.setIfInBounds_toArray, List.set_cons_zero, List.set_cons_succ]
  refine wpAnyH_take (i := 12) (oi := { dst := some 26, op := Op.fieldAddr 83 (Operand.tmp 25) 2, type := 0, pos := "cursor.go:146", after := #[{ on := 11, ground := Ground.data }, { on := 0, ground := Ground.phase }, { on := 1, ground := Ground.phase }, { on := 2, ground := Ground.phase }, { on := 3, ground := Ground.phase }, { on := 4, ground := Ground.phase }, { on := 5, ground := Ground.phase }, { on := 6, ground := Ground.phase }, { on := 7, ground := Ground.phase }, { on := 8, ground := Ground.phase }, { on := 9, ground := Ground.phase }, { on := 10, ground := Ground.phase }], guard := none }) (v := ?v1x12) rfl (by kernel_rfl) (by kernel_rfl) (by kernel_rfl) (fun _ _ _ h => h) (Or.inl ⟨by rfl, ?y1x12⟩) hn ?r1x12
  case y1x12 => (intro wS hS; (try go_simp); (try with_reducible rfl))
  try simp only [Act.put, List.setIfInBounds_toArray, List.set_cons_zero, List.set_cons_succ]
  refine wpAnyH_ready (rs := [13]) (by kernel_rfl) (by simp) ?_
  refine AllReadyH.cons (o := { dst := none, op := Op.store 3 (Operand.tmp 26) (Operand.tmp 24), type := 0, pos := "cursor.go:146", after := #[{ on := 12, ground := Ground.data }, { on := 10, ground := Ground.data }, { on := 8, ground := Ground.chain }, { on := 0, ground := Ground.phase }, { on := 1, ground := Ground.phase }, { on := 2, ground := Ground.phase }, { on := 3, ground := Ground.phase }, { on := 4, ground := Ground.phase }, { on := 5, ground := Ground.phase }, { on := 6, ground := Ground.phase }, { on := 7, ground := Ground.phase }, { on := 8, ground := Ground.phase }, { on := 9, ground := Ground.phase }, { on := 10, ground := Ground.phase }], guard := none }) rfl (fun K hK => ?_) AllReadyH.nil
  have f := (H0.out.new hnn).f 2
  have c := (H0.out.new hnn).c2
  go_simp
  have hn := hn.put (by omega) (.int .i64 ((p : Int) + (M : Int)))
  have c5 := lim2_same (H0.out.new hnn) ((p : Int) + (M : Int))
  have u5 := (New.upd hnn).trans (updC _ C 2 (.int .i64 ((p : Int) + (M : Int)))) (fun _ _ h => h)
  refine hK.out _ _ (by first | exact hn | exact Upd.alloc hn _) (fun hn => ?_)
  clear hK K
  try simp only [Act.put, List.setIfInBounds_toArray, List.set_cons_zero, List.set_cons_succ]
  refine wpAnyH_done (by kernel_rfl) ?_ _
  refine NoPanic.normal ?_
  have b5 := hn.2.2
  have o5 := HOU.out.upd hn.1 (by omega)
  generalize wa.setCell ⟨C, 2, none⟩ (.int .i64 ((p : Int) + (M : Int))) = w5 at *
  have B5 := hid b5
  have O5 := hid o5
  have C5 := hid c5
  have U5 := hid u5
  clear hn hnn hna b5 o5 c5 u5 em eM ea f c HB HOU H1
  go_wp2_with fail
  refine upon_callv HG.out (HDO.out w5 U5.out C5.out) ?_
  rintro e w6 ⟨hu6, hd6, hk6⟩
  have U6 : Hid (Upd (fun k => k = C ∨ S k) w w6) := (U5.out.mono (fun _ _ h => .inl h)).trans hu6 (fun _ _ h => h)
  have o6 := O5.out.upd hu6 (by intro hh; rcases hh with hh | hh; · omega
                                · have := HSS.out _ hh; omega)
  have b6 : w6.cell? ⟨w.heap.size, 0, none⟩ = some (.pointer (some ⟨C, 0, none⟩)) := hu6.cell B5.out (by intro hh; rcases hh with hh | hh; · simp at hh; omega
                                                                                                         · have := HSS.out _ hh; simp at this)
  have O6 := hid o6
  have B6 := hid b6
  have K6 := hid hk6
  clear o6 hu6 hk6
  cases o with
  | up q er =>
    obtain ⟨rfl, hc6⟩ := hd6
    have C6 := hid hc6
    clear hc6 b6
    go_wp2_with fail
    refine leaves_cons (f := 53) (args := #[.pointer (some ⟨w.heap.size + 1, 0, none⟩), .pointer (some ⟨w.heap.size, 0, none⟩)]) (by simp) (by simp [go_sem]) ?_
    refine (Within1_any (w.heap.size + 1) w.heap.size C lim _ _ w6 O6.out.c B6.out C6.out.c2 (C6.out.f 2)).mono ?_
    rintro e u' w'' ⟨rfl, rfl, rfl⟩
    have h7 := C6.out.lim2 lim
    exact ⟨U6.out.trans h7.2 (fun _ _ h => .inl h), ⟨rfl, h7.1⟩, HK.out _ _ h7.2 K6.out⟩
  | ok _ q =>
    obtain ⟨rfl, hc6⟩ := hd6
    have C6 := hid hc6
    have iq := HIN.out q rfl
    have HRQ := hid (Rest_any hc6 iq)
    obtain ⟨z, hz⟩ : ∃ z, rest ((p : Int) + (M : Int)) q = z := ⟨_, rfl⟩
    rw [hz] at HRQ
    have HW : Hid ((z = 0 → withinO ((p : Int) + (M : Int)) (.ok () q) = .ok () q) ∧ (z ≠ 0 → withinO ((p : Int) + (M : Int)) (.ok () q) = .up q 2)) := by
      constructor
      · intro h; unfold withinO; simp only; rw [if_pos (hz.trans h)]
      · intro h; unfold withinO; simp only; rw [if_neg (by rw [hz]; exact h)]
    clear hc6 hz
    by_cases z0 : z = 0
    · have hb : (z != 0) = false := by simp [z0]
      have HZ := hid z0
      clear z0
      go_wp2_with fail
      refine HRQ.out.mono ?_
      rintro e w7 ⟨rfl, hn7⟩
      have C7 := hid (C6.out.new hn7)
      have o7 := O6.out.new hn7
      have b7 := hn7.cell B6.out (fun h => h)
      have U7 := hid (U6.out.thenNew hn7)
      have K7 := hid (HK.out _ _ (New.upd hn7) K6.out)
      have O7 := hid o7
      have B7 := hid b7
      clear hn7 o7 b7
      go_wp2_with fail
      refine leaves_cons (f := 53) (args := #[.pointer (some ⟨w.heap.size + 1, 0, none⟩), .pointer (some ⟨w.heap.size, 0, none⟩)]) (by simp) (by simp [go_sem]) ?_
      refine (Within1_any (w.heap.size + 1) w.heap.size C lim _ _ w7 O7.out.c B7.out C7.out.c2 (C7.out.f 2)).mono ?_
      rintro e u' w'' ⟨rfl, rfl, rfl⟩
      have h8 := C7.out.lim2 lim
      refine ⟨_, results_none rfl _ _ _, U7.out.trans h8.2 (fun _ _ h => .inl h), ?_, HK.out _ _ h8.2 K7.out⟩
      rw [HW.out.1 HZ.out]
      exact ⟨rfl, h8.1⟩
    · have hb : (z != 0) = true := by simp [z0]
      have HZ := hid z0
      clear z0
      go_wp2_with fail
      refine HRQ.out.mono ?_
      rintro e w7 ⟨rfl, hn7⟩
      have c7 := C6.out.new hn7
      have o7 := O6.out.new hn7
      have b7 := hn7.cell B6.out (fun h => h)
      have U7 := hid (U6.out.thenNew hn7)
      have K7 := hid (HK.out _ _ (New.upd hn7) K6.out)
      have O7 := hid o7
      have B7 := hid b7
      have C7 := hid c7
      have cc := c7.c1
      clear hn7 o7 c7 b6
      go_wp2_with fail
      go_still_tail 5, (by kernel_rfl)
      change wpList _ _ _ _ _ w7.drew
      clear b7 cc
      have C8 : Hid (Cur w7.drew C v bs q ((p : Int) + (M : Int)) 0) := C7.out.new (Upd.refl _ _).drew
      have O8 : Hid (One1 w7.drew (w.heap.size + 1) (.int .i64 lim)) := O7.out
      have B8 : Hid (w7.drew.cell? ⟨w.heap.size, 0, none⟩ = some (.pointer (some ⟨C, 0, none⟩))) := B7.out
      have U8 : Hid (Upd (fun k => k = C ∨ S k) w w7.drew) := U7.out.drew
      have K8 : Hid (K w7.drew) := HK.out _ _ ((Upd.refl _ _).drew) K7.out
      generalize w7.drew = w8 at *
      go_wp2_with fail
      refine (giveUp_any C8.out q 2).mono ?_
      rintro e w9 ⟨rfl, hc9, hu9⟩
      have C9 := hid hc9
      have U9 := hid (U8.out.trans hu9 (fun _ _ h => .inl h))
      have K9 := hid (HK.out _ _ hu9 K8.out)
      have O9 := hid (O8.out.upd hu9 (by omega))
      have B9 : Hid (w9.cell? ⟨w.heap.size, 0, none⟩ = some (.pointer (some ⟨C, 0, none⟩))) := hu9.cell B8.out (by simp; omega)
      clear hc9 hu9
      go_wp2_with fail
      refine leaves_cons (f := 53) (args := #[.pointer (some ⟨w.heap.size + 1, 0, none⟩), .pointer (some ⟨w.heap.size, 0, none⟩)]) (by simp) (by simp [go_sem]) ?_
      refine (Within1_any (w.heap.size + 1) w.heap.size C lim _ _ w9 O9.out.c B9.out C9.out.c2 (C9.out.f 2)).mono ?_
      rintro e u' w'' ⟨rfl, rfl, rfl⟩
      have h10 := C9.out.lim2 lim
      refine ⟨U9.out.trans h10.2 (fun _ _ h => .inl h), ?_, HK.out _ _ h10.2 K9.out⟩
      rw [HW.out.2 HZ.out]
      exact ⟨rfl, h10.1⟩
end Go.Proofs.Ytjagimlmclejeaa

namespace Go.Proofs.Ytjagimlmclejeaa
open Go.RowKit Go.Proofs.Leb Go.Proofs.Own Go.Proofs.Cur
set_option maxRecDepth 100000
set_option maxHeartbeats 4000000

/-- where the place and the error are laid: what stays so -/
structure SV (w : World) (C Bc Bp Be : Nat) (v : Value) (bs : List UInt8) (p : Nat) (lim : Int) (er : Nat) (w' : World) : Prop where
  up : Upd (fun k => k = Bp ∨ k = Be) w w'
  cur : Cur w' C v bs p lim er
  bc : One1 w' Bc (.pointer (some ⟨C, 0, none⟩))

theorem SV.new {w a b : World} {C Bc Bp Be : Nat} {v : Value} {bs : List UInt8} {p : Nat} {lim : Int} {er : Nat} (h : SV w C Bc Bp Be v bs p lim er a) (hn : New a b) : SV w C Bc Bp Be v bs p lim er b :=
  ⟨h.up.thenNew hn, h.cur.new hn, h.bc.new hn⟩
theorem SV.put {w a : World} {C Bc Bp Be : Nat} {v : Value} {bs : List UInt8} {p : Nat} {lim : Int} {er : Nat} (h : SV w C Bc Bp Be v bs p lim er a) (g : Nat) (hg : g = Bp ∨ g = Be) (h1 : g ≠ C) (h2 : g ≠ Bc) (h3 : bs ≠ [] → v.ownBlock ≠ some g) (u : Value) :
    SV w C Bc Bp Be v bs p lim er (a.setCell ⟨g, 0, none⟩ u) :=
  ⟨h.up.trans (updC _ g 0 u) (fun _ _ h => by rw [h]; exact hg), h.cur.upd (updC _ g 0 u) (by omega) (fun hb k hk hkg => h3 hb (by rw [hk, hkg])), h.bc.other (by simp; omega)⟩

theorem assertNil (w : World) : (Instr.typeAssert .nilIface 20 85 true).run Try.prog w = .ok (.tuple #[.agg #[.pointer none], .bool false]) w := by kernel_rfl
theorem assertGave (C : Nat) (w : World) : (Instr.typeAssert (gave C) 20 85 true).run Try.prog w = .ok (.tuple #[.agg #[.pointer (some ⟨C, 0, none⟩)], .bool true]) w := by kernel_rfl

theorem ptrNeq (C : Nat) (w : World) : (binOp .neq 62 (.pointer (some ⟨C, 0, none⟩)) (.pointer (some ⟨C, 0, none⟩))).run Try.prog w = .ok (.bool false) w := by
  have hj : ∃ j, Try.prog.info? 83 = some j := by
    have h : (Try.prog.info? 83).map (·.size) = some 4 := by kernel_rfl
    cases hq : Try.prog.info? 83 with
    | none => simp [hq] at h
    | some j => exact ⟨j, rfl⟩
  obtain ⟨j, hj⟩ := hj
  exact Lib.run_neq_ptr_same (P := Try.prog) w ⟨C, 0, none⟩ Try.underlying62 hj

/-- the end of what is deferred, in a world that returns or was recovered -/
def PostT (c₀ : Frame) (cs : List Frame) (cs' : List Frame) (R : Ending → FrameMode → World → Prop) (e : Exit) (a : Act) (w : World) : Prop := bodyPostS Try.prog Try.f51 c₀ cs R e a cs' w

def TryPost (w : World) (C Bc Bp Be : Nat) (v : Value) (bs : List UInt8) (p : Nat) (lim : Int) (er : Nat) (m : FrameMode) (e : Ending) (u' : FrameMode) (w' : World) : Prop :=
  e = .returned (.tuple #[]) ∧ u' = m ∧ SV w C Bc Bp Be v bs p lim er w' ∧ One1 w' Bp (.int .i64 p) ∧ One1 w' Be (.int .i64 er)

theorem Try1_ret (C Bc Bp Be : Nat) (v : Value) (bs : List UInt8) (p : Nat) (lim : Int) (er : Nat) (x y : Value) (w : World) (hs : SV w C Bc Bp Be v bs p lim er w) (hp : One1 w Bp x) (he : One1 w Be y)
    (d1 : Bp ≠ Be) (d2 : Bp ≠ C) (d3 : Be ≠ C) (d4 : Bp ≠ Bc) (d5 : Be ≠ Bc) (d6 : bs ≠ [] → v.ownBlock ≠ some Bp) (d7 : bs ≠ [] → v.ownBlock ≠ some Be) :
    CallsD Try.prog 51 #[.pointer (some ⟨Bc, 0, none⟩), .pointer (some ⟨Bp, 0, none⟩), .pointer (some ⟨Be, 0, none⟩)] .returning w (TryPost w C Bc Bp Be v bs p lim er .returning) := by
  refine callsD_of_wpS Try.func51 rfl fun c₀ cs hu => ?_
  simp only [Try.ntmps51, List.size_toArray, List.length_cons, List.length_nil, Nat.reduceAdd, Nat.reduceSub, Array.replicate_succ, Array.replicate_zero, List.push_toArray, List.append_toArray, List.nil_append, List.cons_append]
  apply wpS_seq
  apply wpS_region
  simp [wpOpsS, go_sem, recoverD, hu, Exit.thenS]
  refine wpS_of_wp (show Code.wp _ _ (PostT c₀ cs _ (TryPost w C Bc Bp Be v bs p lim er .returning)) _ _ from ?_)
  have ha := assertNil
  go_wp2_with fail
  have hs1 := hs.new ((Upd.refl (fun _ => False) w).alloc (.cells #[.pointer none] 85))
  have hp1 := hp.push (.cells #[.pointer none] 85)
  have he1 := he.push (.cells #[.pointer none] 85)
  generalize w.alloc (.cells #[.pointer none] 85) = w1 at *
  have hn := hs1.new ((Upd.refl _ _).drew)
  have hp := hp1.drew
  have he := he1.drew
  clear hp1 he1 hs1 ha hs
  refine wp_region_noPanic ?_
  refine wp_region_held_drew (S := (SV w C Bc Bp Be v bs p lim er)) (by kernel_rfl) (by first | exact hn | exact (Upd.refl _ _).drew | exact Upd.drew (by assumption)) (fun hn => ?_)
  generalize w1.drew = wd at *
  refine wpAnyH_take (i := 0) (oi := { dst := some 25, op := Op.load 62 (Operand.tmp 0), type := 62, pos := "cursor.go:37", after := #[], guard := none }) (v := ?v1x1) rfl (by kernel_rfl) (by kernel_rfl) (by kernel_rfl) (fun _ _ _ h => h) (Or.inl ⟨by rfl, ?y1x1⟩) hn ?r1x1
  case y1x1 => (intro wS hS; have c := hS.bc.c; (try go_simp); (try with_reducible rfl))
  try simp only [Act.put, List.setIfInBounds_toArray, List.set_cons_zero, List.set_cons_succ]
  refine wpAnyH_take (i := 1) (oi := { dst := some 26, op := Op.nilCheck (Operand.tmp 25), type := 0, pos := "cursor.go:37", after := #[{ on := 0, ground := Ground.data }], guard := none }) (v := ?v1x2) rfl (by kernel_rfl) (by kernel_rfl) (by kernel_rfl) (fun _ _ _ h => h) (Or.inl ⟨by rfl, ?y1x2⟩) hn ?r1x2
  case y1x2 => (intro wS hS; (try go_simp); (try with_reducible rfl))
  try simp only [Act.put, List.setIfInBounds_toArray, List.set_cons_zero, List.set_cons_succ]
  refine wpAnyH_take (i := 2) (oi := { dst := some 27, op := Op.fieldAddr 83 (Operand.tmp 26) 1, type := 0, pos := "cursor.go:37", after := #[{ on := 1, ground := Ground.data }], guard := none }) (v := ?v1x3) rfl (by kernel_rfl) (by kernel_rfl) (by kernel_rfl) (fun _ _ _ h => h) (Or.inl ⟨by rfl, ?y1x3⟩) hn ?r1x3
  case y1x3 => (intro wS hS; (try go_simp); (try with_reducible rfl))
  try simp only [Act.put, List.setIfInBounds_toArray, List.set_cons_zero, List.set_cons_succ]
  refine wpAnyH_take (i := 3) (oi := { dst := some 28, op := Op.load 3 (Operand.tmp 27), type := 3, pos := "cursor.go:37", after := #[{ on := 2, ground := Ground.data }], guard := none }) (v := ?v1x4) rfl (by kernel_rfl) (by kernel_rfl) (by kernel_rfl) (fun _ _ _ h => h) (Or.inl ⟨by rfl, ?y1x4⟩) hn ?r1x4
  case y1x4 => (intro wS hS; have c := hS.cur.c1; (try go_simp); (try with_reducible rfl))
  try simp only [Act.put, List.setIfInBounds_toArray, List.set_cons_zero, List.set_cons_succ]
  refine wpAnyH_take (i := 4) (oi := { dst := some 29, op := Op.load 62 (Operand.tmp 0), type := 62, pos := "cursor.go:37", after := #[], guard := none }) (v := ?v1x5) rfl (by kernel_rfl) (by kernel_rfl) (by kernel_rfl) (fun _ _ _ h => h) (Or.inl ⟨by rfl, ?y1x5⟩) hn ?r1x5
  case y1x5 => (intro wS hS; have c := hS.bc.c; (try go_simp); (try with_reducible rfl))
  try simp only [Act.put, List.setIfInBounds_toArray, List.set_cons_zero, List.set_cons_succ]
  refine wpAnyH_take (i := 5) (oi := { dst := some 30, op := Op.nilCheck (Operand.tmp 29), type := 0, pos := "cursor.go:37", after := #[{ on := 4, ground := Ground.data }], guard := none }) (v := ?v1x6) rfl (by kernel_rfl) (by kernel_rfl) (by kernel_rfl) (fun _ _ _ h => h) (Or.inl ⟨by rfl, ?y1x6⟩) hn ?r1x6
  case y1x6 => (intro wS hS; (try go_simp); (try with_reducible rfl))
  try simp only [Act.put, List.setIfInBounds_toArray, List.set_cons_zero, List.set_cons_succ]
  refine wpAnyH_take (i := 6) (oi := { dst := some 31, op := Op.fieldAddr 83 (Operand.tmp 30) 3, type := 0, pos := "cursor.go:37", after := #[{ on := 5, ground := Ground.data }], guard := none }) (v := ?v1x7) rfl (by kernel_rfl) (by kernel_rfl) (by kernel_rfl) (fun _ _ _ h => h) (Or.inl ⟨by rfl, ?y1x7⟩) hn ?r1x7
  case y1x7 => (intro wS hS; (try go_simp); (try with_reducible rfl))
  try simp only [Act.put, List.setIfInBounds_toArray, List.set_cons_zero, List.set_cons_succ]
  refine wpAnyH_take (i := 7) (oi := { dst := some 32, op := Op.load 59 (Operand.tmp 31), type := 59, pos := "cursor.go:37", after := #[{ on := 6, ground := Ground.data }], guard := none }) (v := ?v1x8) rfl (by kernel_rfl) (by kernel_rfl) (by kernel_rfl) (fun _ _ _ h => h) (Or.inl ⟨by rfl, ?y1x8⟩) hn ?r1x8
  case y1x8 => (intro wS hS; have c := hS.cur.c3; (try go_simp); (try with_reducible rfl))
  try simp only [Act.put, List.setIfInBounds_toArray, List.set_cons_zero, List.set_cons_succ]
  refine wpAnyH_ready (rs := [8]) (by kernel_rfl) (by simp) ?_
  refine AllReadyH.cons (o := { dst := none, op := Op.store 3 (Operand.tmp 1) (Operand.tmp 28), type := 0, pos := "cursor.go:37", after := #[{ on := 3, ground := Ground.data }, { on := 0, ground := Ground.phase }, { on := 1, ground := Ground.phase }, { on := 2, ground := Ground.phase }, { on := 3, ground := Ground.phase }, { on := 4, ground := Ground.phase }, { on := 5, ground := Ground.textOnly Departure.lateStoresUnsure }, { on := 6, ground := Ground.textOnly Departure.lateStoresUnsure }, { on := 7, ground := Ground.phase }], guard := none }) rfl (fun K hK => ?_) AllReadyH.nil
  have z := hp.c
  have f := hp.f
  go_simp
  have hn := hn.put Bp (.inl rfl) d2 d4 d6 (.int .i64 p)
  have he := he.other (p := ⟨Bp, 0, none⟩) (v := .int .i64 p) (by simp; omega)
  have hp := hp.put (v := .int .i64 p)
  clear z f
  refine hK.out _ _ (by first | exact hn | exact Upd.alloc hn _) (fun hn => ?_)
  clear hK K
  try simp only [Act.put, List.setIfInBounds_toArray, List.set_cons_zero, List.set_cons_succ]
  refine wpAnyH_ready (rs := [9]) (by kernel_rfl) (by simp) ?_
  refine AllReadyH.cons (o := { dst := none, op := Op.store 59 (Operand.tmp 2) (Operand.tmp 32), type := 0, pos := "cursor.go:37", after := #[{ on := 7, ground := Ground.data }, { on := 8, ground := Ground.chain }, { on := 0, ground := Ground.phase }, { on := 1, ground := Ground.phase }, { on := 2, ground := Ground.phase }, { on := 3, ground := Ground.phase }, { on := 4, ground := Ground.phase }, { on := 5, ground := Ground.phase }, { on := 6, ground := Ground.phase }, { on := 7, ground := Ground.phase }, { on := 8, ground := Ground.phase }], guard := none }) rfl (fun K hK => ?_) AllReadyH.nil
  have z := he.c
  have f := he.f
  go_simp
  have hn := hn.put Be (.inr rfl) d3 d5 d7 (.int .i64 er)
  have hp := hp.other (p := ⟨Be, 0, none⟩) (v := .int .i64 er) (by simp; omega)
  have he := he.put (v := .int .i64 er)
  clear z f
  refine hK.out _ _ (by first | exact hn | exact Upd.alloc hn _) (fun hn => ?_)
  clear hK K
  try simp only [Act.put, List.setIfInBounds_toArray, List.set_cons_zero, List.set_cons_succ]
  refine wpAnyH_done (by kernel_rfl) ?_ _
  refine NoPanic.normal ?_
  go_wp2_with fail
  refine ⟨rfl, _, rfl, _, results_none rfl _ _ _, rfl, (by first | exact hu | rfl), hn, hp, he⟩
theorem Try1_gave (C Bc Bp Be : Nat) (v : Value) (bs : List UInt8) (p : Nat) (lim : Int) (er : Nat) (x y : Value) (w : World) (hs : SV w C Bc Bp Be v bs p lim er w) (hp : One1 w Bp x) (he : One1 w Be y)
    (d1 : Bp ≠ Be) (d2 : Bp ≠ C) (d3 : Be ≠ C) (d4 : Bp ≠ Bc) (d5 : Be ≠ Bc) (d6 : bs ≠ [] → v.ownBlock ≠ some Bp) (d7 : bs ≠ [] → v.ownBlock ≠ some Be) :
    CallsD Try.prog 51 #[.pointer (some ⟨Bc, 0, none⟩), .pointer (some ⟨Bp, 0, none⟩), .pointer (some ⟨Be, 0, none⟩)] (.panicking [{ v := gave C, recovered := false }]) w (TryPost w C Bc Bp Be v bs p lim er (.panicking [{ v := gave C, recovered := true }])) := by
  refine callsD_of_wpS Try.func51 rfl fun c₀ cs hu => ?_
  simp only [Try.ntmps51, List.size_toArray, List.length_cons, List.length_nil, Nat.reduceAdd, Nat.reduceSub, Array.replicate_succ, Array.replicate_zero, List.push_toArray, List.append_toArray, List.nil_append, List.cons_append]
  apply wpS_seq
  apply wpS_region
  simp [wpOpsS, go_sem, recoverD, hu, Exit.thenS]
  refine wpS_of_wp (show Code.wp _ _ (PostT c₀ cs _ (TryPost w C Bc Bp Be v bs p lim er (.panicking [{ v := gave C, recovered := true }]))) _ _ from ?_)
  have ha := assertGave C
  unfold gave at ha ⊢
  have hpn := ptrNeq C
  have cb := (hs.bc.push (.cells #[.pointer (some ⟨C, 0, none⟩)] 85)).c
  go_wp2_with fail
  clear cb hpn
  have hs1 := hs.new ((Upd.refl (fun _ => False) w).alloc (.cells #[.pointer (some ⟨C, 0, none⟩)] 85))
  have hp1 := hp.push (.cells #[.pointer (some ⟨C, 0, none⟩)] 85)
  have he1 := he.push (.cells #[.pointer (some ⟨C, 0, none⟩)] 85)
  generalize w.alloc (.cells #[.pointer (some ⟨C, 0, none⟩)] 85) = w1 at *
  have hn := hs1.new ((Upd.refl _ _).drew)
  have hp := hp1.drew
  have he := he1.drew
  clear hp1 he1 hs1 ha hs
  refine wp_region_noPanic ?_
  refine wp_region_held_drew (S := (SV w C Bc Bp Be v bs p lim er)) (by kernel_rfl) (by first | exact hn | exact (Upd.refl _ _).drew | exact Upd.drew (by assumption)) (fun hn => ?_)
  generalize w1.drew = wd at *
  refine wpAnyH_take (i := 0) (oi := { dst := some 25, op := Op.load 62 (Operand.tmp 0), type := 62, pos := "cursor.go:37", after := #[], guard := none }) (v := ?v2x1) rfl (by kernel_rfl) (by kernel_rfl) (by kernel_rfl) (fun _ _ _ h => h) (Or.inl ⟨by rfl, ?y2x1⟩) hn ?r2x1
  case y2x1 => (intro wS hS; have c := hS.bc.c; (try go_simp); (try with_reducible rfl))
  try simp only [Act.put, List.setIfInBounds_toArray, List.set_cons_zero, List.set_cons_succ]
  refine wpAnyH_take (i := 1) (oi := { dst := some 26, op := Op.nilCheck (Operand.tmp 25), type := 0, pos := "cursor.go:37", after := #[{ on := 0, ground := Ground.data }], guard := none }) (v := ?v2x2) rfl (by kernel_rfl) (by kernel_rfl) (by kernel_rfl) (fun _ _ _ h => h) (Or.inl ⟨by rfl, ?y2x2⟩) hn ?r2x2
  case y2x2 => (intro wS hS; (try go_simp); (try with_reducible rfl))
  try simp only [Act.put, List.setIfInBounds_toArray, List.set_cons_zero, List.set_cons_succ]
  refine wpAnyH_take (i := 2) (oi := { dst := some 27, op := Op.fieldAddr 83 (Operand.tmp 26) 1, type := 0, pos := "cursor.go:37", after := #[{ on := 1, ground := Ground.data }], guard := none }) (v := ?v2x3) rfl (by kernel_rfl) (by kernel_rfl) (by kernel_rfl) (fun _ _ _ h => h) (Or.inl ⟨by rfl, ?y2x3⟩) hn ?r2x3
  case y2x3 => (intro wS hS; (try go_simp); (try with_reducible rfl))
  try simp only [Act.put, List.setIfInBounds_toArray, List.set_cons_zero, List.set_cons_succ]
  refine wpAnyH_take (i := 3) (oi := { dst := some 28, op := Op.load 3 (Operand.tmp 27), type := 3, pos := "cursor.go:37", after := #[{ on := 2, ground := Ground.data }], guard := none }) (v := ?v2x4) rfl (by kernel_rfl) (by kernel_rfl) (by kernel_rfl) (fun _ _ _ h => h) (Or.inl ⟨by rfl, ?y2x4⟩) hn ?r2x4
  case y2x4 => (intro wS hS; have c := hS.cur.c1; (try go_simp); (try with_reducible rfl))
  try simp only [Act.put, List.setIfInBounds_toArray, List.set_cons_zero, List.set_cons_succ]
  refine wpAnyH_take (i := 4) (oi := { dst := some 29, op := Op.load 62 (Operand.tmp 0), type := 62, pos := "cursor.go:37", after := #[], guard := none }) (v := ?v2x5) rfl (by kernel_rfl) (by kernel_rfl) (by kernel_rfl) (fun _ _ _ h => h) (Or.inl ⟨by rfl, ?y2x5⟩) hn ?r2x5
  case y2x5 => (intro wS hS; have c := hS.bc.c; (try go_simp); (try with_reducible rfl))
  try simp only [Act.put, List.setIfInBounds_toArray, List.set_cons_zero, List.set_cons_succ]
  refine wpAnyH_take (i := 5) (oi := { dst := some 30, op := Op.nilCheck (Operand.tmp 29), type := 0, pos := "cursor.go:37", after := #[{ on := 4, ground := Ground.data }], guard := none }) (v := ?v2x6) rfl (by kernel_rfl) (by kernel_rfl) (by kernel_rfl) (fun _ _ _ h => h) (Or.inl ⟨by rfl, ?y2x6⟩) hn ?r2x6
  case y2x6 => (intro wS hS; (try go_simp); (try with_reducible rfl))
  try simp only [Act.put, List.setIfInBounds_toArray, List.set_cons_zero, List.set_cons_succ]
  refine wpAnyH_take (i := 6) (oi := { dst := some 31, op := Op.fieldAddr 83 (Operand.tmp 30) 3, type := 0, pos := "cursor.go:37", after := #[{ on := 5, ground := Ground.data }], guard := none }) (v := ?v2x7) rfl (by kernel_rfl) (by kernel_rfl) (by kernel_rfl) (fun _ _ _ h => h) (Or.inl ⟨by rfl, ?y2x7⟩) hn ?r2x7
  case y2x7 => (intro wS hS; (try go_simp); (try with_reducible rfl))
  try simp only [Act.put, List.setIfInBounds_toArray, List.set_cons_zero, List.set_cons_succ]
  refine wpAnyH_take (i := 7) (oi := { dst := some 32, op := Op.load 59 (Operand.tmp 31), type := 59, pos := "cursor.go:37", after := #[{ on := 6, ground := Ground.data }], guard := none }) (v := ?v2x8) rfl (by kernel_rfl) (by kernel_rfl) (by kernel_rfl) (fun _ _ _ h => h) (Or.inl ⟨by rfl, ?y2x8⟩) hn ?r2x8
  case y2x8 => (intro wS hS; have c := hS.cur.c3; (try go_simp); (try with_reducible rfl))
  try simp only [Act.put, List.setIfInBounds_toArray, List.set_cons_zero, List.set_cons_succ]
  refine wpAnyH_ready (rs := [8]) (by kernel_rfl) (by simp) ?_
  refine AllReadyH.cons (o := { dst := none, op := Op.store 3 (Operand.tmp 1) (Operand.tmp 28), type := 0, pos := "cursor.go:37", after := #[{ on := 3, ground := Ground.data }, { on := 0, ground := Ground.phase }, { on := 1, ground := Ground.phase }, { on := 2, ground := Ground.phase }, { on := 3, ground := Ground.phase }, { on := 4, ground := Ground.phase }, { on := 5, ground := Ground.textOnly Departure.lateStoresUnsure }, { on := 6, ground := Ground.textOnly Departure.lateStoresUnsure }, { on := 7, ground := Ground.phase }], guard := none }) rfl (fun K hK => ?_) AllReadyH.nil
  have z := hp.c
  have f := hp.f
  go_simp
  have hn := hn.put Bp (.inl rfl) d2 d4 d6 (.int .i64 p)
  have he := he.other (p := ⟨Bp, 0, none⟩) (v := .int .i64 p) (by simp; omega)
  have hp := hp.put (v := .int .i64 p)
  clear z f
  refine hK.out _ _ (by first | exact hn | exact Upd.alloc hn _) (fun hn => ?_)
  clear hK K
  try simp only [Act.put, List.setIfInBounds_toArray, List.set_cons_zero, List.set_cons_succ]
  refine wpAnyH_ready (rs := [9]) (by kernel_rfl) (by simp) ?_
  refine AllReadyH.cons (o := { dst := none, op := Op.store 59 (Operand.tmp 2) (Operand.tmp 32), type := 0, pos := "cursor.go:37", after := #[{ on := 7, ground := Ground.data }, { on := 8, ground := Ground.chain }, { on := 0, ground := Ground.phase }, { on := 1, ground := Ground.phase }, { on := 2, ground := Ground.phase }, { on := 3, ground := Ground.phase }, { on := 4, ground := Ground.phase }, { on := 5, ground := Ground.phase }, { on := 6, ground := Ground.phase }, { on := 7, ground := Ground.phase }, { on := 8, ground := Ground.phase }], guard := none }) rfl (fun K hK => ?_) AllReadyH.nil
  have z := he.c
  have f := he.f
  go_simp
  have hn := hn.put Be (.inr rfl) d3 d5 d7 (.int .i64 er)
  have hp := hp.other (p := ⟨Be, 0, none⟩) (v := .int .i64 er) (by simp; omega)
  have he := he.put (v := .int .i64 er)
  clear z f
  refine hK.out _ _ (by first | exact hn | exact Upd.alloc hn _) (fun hn => ?_)
  clear hK K
  try simp only [Act.put, List.setIfInBounds_toArray, List.set_cons_zero, List.set_cons_succ]
  refine wpAnyH_done (by kernel_rfl) ?_ _
  refine NoPanic.normal ?_
  go_wp2_with fail
  refine ⟨rfl, _, rfl, _, results_none rfl _ _ _, rfl, (by first | exact hu | rfl), hn, hp, he⟩
end Go.Proofs.Ytjagimlmclejeaa

namespace Go.Proofs.Ytjagimlmclejeaa
open Go.RowKit Go.Proofs.Leb Go.Proofs.Own Go.Proofs.Cur
set_option maxRecDepth 100000
set_option maxHeartbeats 4000000

def placeO (o : Out Unit) : Nat := match o with | .ok _ q => q | .up q _ => q
def errO (o : Out Unit) : Nat := match o with | .ok _ _ => 0 | .up _ e => e

theorem Did.cur {C : Nat} {v : Value} {bs : List UInt8} {lim : Int} {o : Out Unit} {w : World} {e : Ending} (h : Did C v bs lim o w e) : Cur w C v bs (placeO o) lim (errO o) := by
  cases o with
  | ok _ q => exact h.2
  | up q er => exact h.2

theorem Try_any (v : Value) (bs : List UInt8) (w : World) (hr : Rd w v bs) (_ : bs.length ≤ 1000000000) (G : Nat) (cap : Array Value) (hG : Enters G)
    (S : Nat → Prop) (hS : ∀ k, S k → k < w.heap.size) (hSv : bs ≠ [] → ∀ k, v.ownBlock = some k → ¬ S k) (o : Out Unit) (K : World → Prop) (hK : ∀ a b, Upd (fun k => w.heap.size ≤ k ∧ k ≤ w.heap.size + 3) a b → K a → K b)
    (hdo : ∀ w1, New w w1 → w1.heap.size = w.heap.size + 4 → Cur w1 (w.heap.size + 1 + 1) v bs 0 (-1) 0 →
      Calls Try.prog G (#[.pointer (some ⟨w.heap.size + 1 + 1, 0, none⟩)] ++ cap) w1 fun e w2 => Upd (fun k => k = w.heap.size + 1 + 1 ∨ S k) w1 w2 ∧ Did (w.heap.size + 1 + 1) v bs (-1) o w2 e ∧ K w2) :
    Calls Try.prog 30 #[v, .func (.func G) #[] cap] w
      (fun e w' => e = .returned (.tuple #[.int .i64 (placeO o), .int .i64 (errO o)]) ∧ Upd S w w' ∧ K w') := by
  obtain ⟨av, cv, rfl⟩ := hr.shape
  have HG := hid hG
  have HDO := hid hdo
  have HK := hid hK
  have HSS := hid hS
  have HSV := hid hSv
  have HR := hid hr
  have HT := hid hr.there
  have hmf : ∀ (fn : Fn) (first cap : Array Value) (w : World), (Instr.makeFunc fn first cap).run Try.prog w = .ok (.func fn first cap) w := fun _ _ _ _ => rfl
  clear hG hdo hK hS hSv hr
  go_enter_defers Try.func30, Try.ntmps30
  go_wp2_with fail
  have hn1 : New w ((((w.alloc (.cells #[.int .i64 0] 3)).alloc (.cells #[.int .i64 0] 59)).alloc (.cells #[.slice av bs.length cv, .int .i64 0, .int .i64 (-1), .int .i64 0] 83)).alloc (.cells #[.pointer (some ⟨w.heap.size + 1 + 1, 0, none⟩)] 62)) := (((((Upd.refl _ _).alloc _).alloc _).alloc _).alloc _)
  have hp1 : One1 ((((w.alloc (.cells #[.int .i64 0] 3)).alloc (.cells #[.int .i64 0] 59)).alloc (.cells #[.slice av bs.length cv, .int .i64 0, .int .i64 (-1), .int .i64 0] 83)).alloc (.cells #[.pointer (some ⟨w.heap.size + 1 + 1, 0, none⟩)] 62)) w.heap.size (.int .i64 0) := (((One1.mk rfl).push _).push _).push _
  have he1 : One1 ((((w.alloc (.cells #[.int .i64 0] 3)).alloc (.cells #[.int .i64 0] 59)).alloc (.cells #[.slice av bs.length cv, .int .i64 0, .int .i64 (-1), .int .i64 0] 83)).alloc (.cells #[.pointer (some ⟨w.heap.size + 1 + 1, 0, none⟩)] 62)) (w.heap.size + 1) (.int .i64 0) := ((One1.mk (by simp)).push _).push _
  have hc1 : One1 ((((w.alloc (.cells #[.int .i64 0] 3)).alloc (.cells #[.int .i64 0] 59)).alloc (.cells #[.slice av bs.length cv, .int .i64 0, .int .i64 (-1), .int .i64 0] 83)).alloc (.cells #[.pointer (some ⟨w.heap.size + 1 + 1, 0, none⟩)] 62)) (w.heap.size + 1 + 1 + 1) (.pointer (some ⟨w.heap.size + 1 + 1, 0, none⟩)) := One1.mk (by simp)
  have hb1 : ((((w.alloc (.cells #[.int .i64 0] 3)).alloc (.cells #[.int .i64 0] 59)).alloc (.cells #[.slice av bs.length cv, .int .i64 0, .int .i64 (-1), .int .i64 0] 83)).alloc (.cells #[.pointer (some ⟨w.heap.size + 1 + 1, 0, none⟩)] 62)).heap[w.heap.size + 1 + 1]? = some (.cells #[.slice av bs.length cv, .int .i64 0, .int .i64 (-1), .int .i64 0] 83) :=
    hp_old (by simp) (hp_new (by simp))
  have hz1 : ((((w.alloc (.cells #[.int .i64 0] 3)).alloc (.cells #[.int .i64 0] 59)).alloc (.cells #[.slice av bs.length cv, .int .i64 0, .int .i64 (-1), .int .i64 0] 83)).alloc (.cells #[.pointer (some ⟨w.heap.size + 1 + 1, 0, none⟩)] 62)).heap.size = w.heap.size + 4 := by simp
  generalize ((((w.alloc (.cells #[.int .i64 0] 3)).alloc (.cells #[.int .i64 0] 59)).alloc (.cells #[.slice av bs.length cv, .int .i64 0, .int .i64 (-1), .int .i64 0] 83)).alloc (.cells #[.pointer (some ⟨w.heap.size + 1 + 1, 0, none⟩)] 62)) = w1 at *
  have hcur : Cur w1 (w.heap.size + 1 + 1) (.slice av bs.length cv) bs 0 (-1) 0 := ⟨hb1, HR.out.new hn1, fun hb e => by have := HT.out hb _ e; omega⟩
  have hd7 : ∀ k, w.heap.size ≤ k → bs ≠ [] → (Value.slice av bs.length cv).ownBlock ≠ some k := fun k hk hb e => by have := HT.out hb _ e; omega
  have HD7 := hid hd7
  have HC := hid (HDO.out w1 hn1 hz1 hcur)
  have HP1 := hid hp1
  have HE1 := hid he1
  have HC1 := hid hc1
  have HN1 := hid hn1
  have HZ1 := hid hz1
  clear hn1 hp1 he1 hc1 hb1 hz1 hcur hd7
  refine upon_callv HG.out HC.out ?_
  rintro e w2 ⟨hu2, hd2, hk2⟩
  have notS : ∀ k, w.heap.size ≤ k → k ≠ w.heap.size + 1 + 1 → ¬ (k = w.heap.size + 1 + 1 ∨ S k) := by
    intro k h1 h2 hh
    rcases hh with hh | hh
    · exact h2 hh
    · have := HSS.out _ hh
      omega
  have hp2 := HP1.out.upd hu2 (notS _ (by omega) (by omega))
  have he2 := HE1.out.upd hu2 (notS _ (by omega) (by omega))
  have hc2 := HC1.out.upd hu2 (notS _ (by omega) (by omega))
  have U2 : Hid (Upd S w w2) := (HN1.out.upd (S := S)).trans (hu2.mono (T := fun k => k = w.heap.size + 1 + 1 ∨ S k) (fun _ _ h => h)) (fun k hk hh => by
    rcases hh with hh | hh
    · omega
    · exact hh)
  have hcur := hd2.cur
  have K2 := hid hk2
  have HP2 := hid hp2
  have HE2 := hid he2
  have HC2 := hid hc2
  have HCUR := hid hcur
  clear notS hp2 he2 hcur hk2 hu2
  have HSV2 : Hid (SV w2 (w.heap.size + 1 + 1) (w.heap.size + 1 + 1 + 1) w.heap.size (w.heap.size + 1) (.slice av bs.length cv) bs (placeO o) (-1) (errO o) w2) := ⟨Upd.refl _ _, HCUR.out, hc2⟩
  have hcc := hc2.c
  clear hc2
  have fin : ∀ W m e u' w', Upd (fun k => k = w.heap.size ∨ k = w.heap.size + 1) w2 W → TryPost W (w.heap.size + 1 + 1) (w.heap.size + 1 + 1 + 1) w.heap.size (w.heap.size + 1) (.slice av bs.length cv) bs (placeO o) (-1) (errO o) m e u' w' → Upd S w w' ∧ K w' := by
    rintro W m e u' w' hW ⟨-, -, hsv, -, -⟩
    have hall := hW.trans hsv.up (fun _ _ h => h)
    refine ⟨U2.out.trans hall (fun k hk hh => by omega), HK.out _ _ (hall.mono (fun k _ hh => by omega)) K2.out⟩
  have FIN := hid fin
  clear fin
  cases o with
  | up q er =>
    obtain ⟨rfl, -⟩ := hd2
    have hsv : SV w2 (w.heap.size + 1 + 1) (w.heap.size + 1 + 1 + 1) w.heap.size (w.heap.size + 1) (.slice av bs.length cv) bs q (-1) er w2 := HSV2.out
    have HSV3 := hid hsv
    clear hsv
    go_wp2_with fail
    refine leaves_cons (f := 51) (args := #[.pointer (some ⟨w.heap.size + 1 + 1 + 1, 0, none⟩), .pointer (some ⟨w.heap.size, 0, none⟩), .pointer (some ⟨w.heap.size + 1, 0, none⟩)]) (by simp) (by simp [go_sem]) ?_
    refine (Try1_gave (w.heap.size + 1 + 1) (w.heap.size + 1 + 1 + 1) w.heap.size (w.heap.size + 1) (.slice av bs.length cv) bs q (-1) er _ _ w2 HSV3.out HP2.out HE2.out (by omega) (by omega) (by omega) (by omega) (by omega) (HD7.out _ (by omega)) (HD7.out _ (by omega))).mono ?_
    rintro e u' w'' hT
    have hF := FIN.out _ _ _ _ _ (Upd.refl _ _) hT
    obtain ⟨rfl, rfl, -, hp, he⟩ := hT
    have z1 := hp.c
    have z2 := he.c
    have HFF := hid hF
    clear hF
    simp [Leaves, settle, results, Try.results30, go_sem, z1, z2, placeO, errO]
    exact HFF.out
  | ok _ q =>
    obtain ⟨rfl, -⟩ := hd2
    have hsv : SV w2 (w.heap.size + 1 + 1) (w.heap.size + 1 + 1 + 1) w.heap.size (w.heap.size + 1) (.slice av bs.length cv) bs q (-1) 0 w2 := HSV2.out
    have HSV3 := hid hsv
    go_wp2_with fail
    have hn := hsv.new ((Upd.refl _ _).drew)
    have hp := HP2.out.drew
    have he := HE2.out.drew
    have d4 := HD7.out w.heap.size (by omega)
    have d5 := HD7.out (w.heap.size + 1) (by omega)
    clear hsv hcc
    refine wp_region_noPanic ?_
    refine wp_region_held_drew (S := (SV w2 (w.heap.size + 1 + 1) (w.heap.size + 1 + 1 + 1) w.heap.size (w.heap.size + 1) (.slice av bs.length cv) bs q (-1) 0)) (by kernel_rfl) (by first | exact hn | exact (Upd.refl _ _).drew | exact Upd.drew (by assumption)) (fun hn => ?_)
    generalize w2.drew = wd at *
    refine wpAnyH_take (i := 0) (oi := { dst := some 14, op := Op.load 62 (Operand.tmp 6), type := 62, pos := "cursor.go:40", after := #[], guard := none }) (v := ?v1x1) rfl (by kernel_rfl) (by kernel_rfl) (by kernel_rfl) (fun _ _ _ h => h) (Or.inl ⟨by rfl, ?y1x1⟩) hn ?r1x1
    case y1x1 => (intro wS hS; have c := hS.bc.c; (try go_simp); (try with_reducible rfl))
    try simp only [Act.put, List.setIfInBounds_toArray, List.set_cons_zero, List.set_cons_succ]
    refine wpAnyH_take (i := 1) (oi := { dst := some 15, op := Op.nilCheck (Operand.tmp 14), type := 0, pos := "cursor.go:40", after := #[{ on := 0, ground := Ground.data }], guard := none }) (v := ?v1x2) rfl (by kernel_rfl) (by kernel_rfl) (by kernel_rfl) (fun _ _ _ h => h) (Or.inl ⟨by rfl, ?y1x2⟩) hn ?r1x2
    case y1x2 => (intro wS hS; (try go_simp); (try with_reducible rfl))
    try simp only [Act.put, List.setIfInBounds_toArray, List.set_cons_zero, List.set_cons_succ]
    refine wpAnyH_take (i := 2) (oi := { dst := some 16, op := Op.fieldAddr 83 (Operand.tmp 15) 1, type := 0, pos := "cursor.go:40", after := #[{ on := 1, ground := Ground.data }], guard := none }) (v := ?v1x3) rfl (by kernel_rfl) (by kernel_rfl) (by kernel_rfl) (fun _ _ _ h => h) (Or.inl ⟨by rfl, ?y1x3⟩) hn ?r1x3
    case y1x3 => (intro wS hS; (try go_simp); (try with_reducible rfl))
    try simp only [Act.put, List.setIfInBounds_toArray, List.set_cons_zero, List.set_cons_succ]
    refine wpAnyH_take (i := 3) (oi := { dst := some 17, op := Op.load 3 (Operand.tmp 16), type := 3, pos := "cursor.go:40", after := #[{ on := 2, ground := Ground.data }], guard := none }) (v := ?v1x4) rfl (by kernel_rfl) (by kernel_rfl) (by kernel_rfl) (fun _ _ _ h => h) (Or.inl ⟨by rfl, ?y1x4⟩) hn ?r1x4
    case y1x4 => (intro wS hS; have c := hS.cur.c1; (try go_simp); (try with_reducible rfl))
    try simp only [Act.put, List.setIfInBounds_toArray, List.set_cons_zero, List.set_cons_succ]
    refine wpAnyH_take (i := 4) (oi := { dst := some 18, op := Op.load 62 (Operand.tmp 6), type := 62, pos := "cursor.go:40", after := #[], guard := none }) (v := ?v1x5) rfl (by kernel_rfl) (by kernel_rfl) (by kernel_rfl) (fun _ _ _ h => h) (Or.inl ⟨by rfl, ?y1x5⟩) hn ?r1x5
    case y1x5 => (intro wS hS; have c := hS.bc.c; (try go_simp); (try with_reducible rfl))
    try simp only [Act.put, List.setIfInBounds_toArray, List.set_cons_zero, List.set_cons_succ]
    refine wpAnyH_take (i := 5) (oi := { dst := some 19, op := Op.nilCheck (Operand.tmp 18), type := 0, pos := "cursor.go:40", after := #[{ on := 4, ground := Ground.data }], guard := none }) (v := ?v1x6) rfl (by kernel_rfl) (by kernel_rfl) (by kernel_rfl) (fun _ _ _ h => h) (Or.inl ⟨by rfl, ?y1x6⟩) hn ?r1x6
    case y1x6 => (intro wS hS; (try go_simp); (try with_reducible rfl))
    try simp only [Act.put, List.setIfInBounds_toArray, List.set_cons_zero, List.set_cons_succ]
    refine wpAnyH_take (i := 6) (oi := { dst := some 20, op := Op.fieldAddr 83 (Operand.tmp 19) 3, type := 0, pos := "cursor.go:40", after := #[{ on := 5, ground := Ground.data }], guard := none }) (v := ?v1x7) rfl (by kernel_rfl) (by kernel_rfl) (by kernel_rfl) (fun _ _ _ h => h) (Or.inl ⟨by rfl, ?y1x7⟩) hn ?r1x7
    case y1x7 => (intro wS hS; (try go_simp); (try with_reducible rfl))
    try simp only [Act.put, List.setIfInBounds_toArray, List.set_cons_zero, List.set_cons_succ]
    refine wpAnyH_take (i := 7) (oi := { dst := some 21, op := Op.load 59 (Operand.tmp 20), type := 59, pos := "cursor.go:40", after := #[{ on := 6, ground := Ground.data }], guard := none }) (v := ?v1x8) rfl (by kernel_rfl) (by kernel_rfl) (by kernel_rfl) (fun _ _ _ h => h) (Or.inl ⟨by rfl, ?y1x8⟩) hn ?r1x8
    case y1x8 => (intro wS hS; have c := hS.cur.c3; (try go_simp); (try with_reducible rfl))
    try simp only [Act.put, List.setIfInBounds_toArray, List.set_cons_zero, List.set_cons_succ]
    refine wpAnyH_ready (rs := [8]) (by kernel_rfl) (by simp) ?_
    refine AllReadyH.cons (o := { dst := none, op := Op.store 3 (Operand.tmp 4) (Operand.tmp 17), type := 0, pos := "cursor.go:40", after := #[{ on := 3, ground := Ground.data }, { on := 0, ground := Ground.phase }, { on := 1, ground := Ground.phase }, { on := 2, ground := Ground.phase }, { on := 3, ground := Ground.phase }, { on := 4, ground := Ground.textOnly Departure.lateStoresUnsure }, { on := 5, ground := Ground.textOnly Departure.lateStoresUnsure }, { on := 6, ground := Ground.textOnly Departure.lateStoresUnsure }, { on := 7, ground := Ground.textOnly Departure.lateStoresUnsure }], guard := none }) rfl (fun K hK => ?_) AllReadyH.nil
    have z := hp.c
    have f := hp.f
    go_simp
    have hn := hn.put w.heap.size (.inl rfl) (by omega) (by omega) d4 (.int .i64 q)
    have he := he.other (p := ⟨w.heap.size, 0, none⟩) (v := .int .i64 q) (by simp)
    have hp := hp.put (v := .int .i64 q)
    clear z f
    refine hK.out _ _ (by first | exact hn | exact Upd.alloc hn _) (fun hn => ?_)
    clear hK K
    try simp only [Act.put, List.setIfInBounds_toArray, List.set_cons_zero, List.set_cons_succ]
    refine wpAnyH_ready (rs := [9]) (by kernel_rfl) (by simp) ?_
    refine AllReadyH.cons (o := { dst := none, op := Op.store 59 (Operand.tmp 5) (Operand.tmp 21), type := 0, pos := "cursor.go:40", after := #[{ on := 7, ground := Ground.data }, { on := 8, ground := Ground.chain }, { on := 0, ground := Ground.phase }, { on := 1, ground := Ground.phase }, { on := 2, ground := Ground.phase }, { on := 3, ground := Ground.phase }, { on := 4, ground := Ground.phase }, { on := 5, ground := Ground.phase }, { on := 6, ground := Ground.phase }, { on := 7, ground := Ground.phase }, { on := 8, ground := Ground.phase }], guard := none }) rfl (fun K hK => ?_) AllReadyH.nil
    have z := he.c
    have f := he.f
    go_simp
    have hn := hn.put (w.heap.size + 1) (.inr rfl) (by omega) (by omega) d5 (.int .i64 0)
    have hp := hp.other (p := ⟨w.heap.size + 1, 0, none⟩) (v := .int .i64 0) (by simp)
    have he := he.put (v := .int .i64 0)
    clear z f
    refine hK.out _ _ (by first | exact hn | exact Upd.alloc hn _) (fun hn => ?_)
    clear hK K
    try simp only [Act.put, List.setIfInBounds_toArray, List.set_cons_zero, List.set_cons_succ]
    refine wpAnyH_done (by kernel_rfl) ?_ _
    refine NoPanic.normal ?_
    go_wp2_with fail
    refine leaves_cons (f := 51) (args := #[.pointer (some ⟨w.heap.size + 1 + 1 + 1, 0, none⟩), .pointer (some ⟨w.heap.size, 0, none⟩), .pointer (some ⟨w.heap.size + 1, 0, none⟩)]) (by simp) (by simp [go_sem]) ?_
    refine (Try1_ret (w.heap.size + 1 + 1) (w.heap.size + 1 + 1 + 1) w.heap.size (w.heap.size + 1) (.slice av bs.length cv) bs q (-1) 0 _ _ _ ⟨Upd.refl _ _, hn.cur, hn.bc⟩ hp he (by omega) (by omega) (by omega) (by omega) (by omega) (HD7.out _ (by omega)) (HD7.out _ (by omega))).mono ?_
    rintro e u' w'' hT
    have hF := FIN.out _ _ _ _ _ hn.up hT
    obtain ⟨rfl, rfl, -, hp, he⟩ := hT
    have z1 := hp.c
    have z2 := he.c
    have HFF := hid hF
    clear hF
    simp [Leaves, settle, results, Try.results30, go_sem, z1, z2, placeO, errO]
    exact HFF.out
end Go.Proofs.Ytjagimlmclejeaa
