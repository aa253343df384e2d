/-
  The cursor: a number with a sign, read.
-/
import Derived.Test.YtkfohickmdkplaaJ38
import Derived.Test.YtkfohickmdkplaaJ16
namespace Go.Proofs.Ytkfohickmdkplaa
open Go.RowKit Go.Proofs.Leb Go.Proofs.Own Go.Proofs.Cur
set_option maxRecDepth 100000
set_option maxHeartbeats 4000000

structure SInv (C : Nat) (v : Value) (bs : List UInt8) (lim mn mx : Int) (bits : Nat) (O : Out (List UInt8)) (w : World) (ds : List UInt8) (xv g q : Nat) (wr : World) : Prop where
  up : Upd (· = C) w wr
  cur : Cur wr C v bs q lim 0
  inv : Inv bs.length lim q
  kg : One1 wr g (.int .i64 ds.length)
  kt : One1 wr w.heap.size (.int .i64 bits)
  kb : Blk wr (w.heap.size + 1) (.int .i64 mn) (.int .i64 mx) 68
  kl : One1 wr (w.heap.size + 1 + 1) (.int .i64 ((bits - 1) / 7 : Nat))
  ge : w.heap.size + 1 < g
  len : ds.length ≤ (bits - 1) / 7 + 1
  go : 128 ≤ xv → ds.length ≤ (bits - 1) / 7 ∧ numO bs lim (mayS (fun r => Span.has mn mx r = true) bits) ((bits - 1) / 7 + 1 - ds.length) ds q = O
  st : xv < 128 → O = .ok ds q ∧ ∃ ds' x, ds = ds' ++ [x] ∧ x.toNat = xv ∧ (ds'.length = 9 → x.toNat = 0 ∨ x.toNat = 127)

/-- the number, of digits that have come out -/
def SintV (ds : List UInt8) : Value := .int .i64 (sval ds)

theorem sext (ds : List UInt8) (x : UInt8) (hx : x.toNat < 128) (h9 : ds.length ≤ 9) (hs : ds.length = 9 → x.toNat = 0 ∨ x.toNat = 127) :
    IntKind.i64.wrap (IntKind.u64.wrap ((vm (ds ++ [x]) : Int) * 2 ^ (64 - 7 * (ds.length + 1)))) / 2 ^ (64 - 7 * (ds.length + 1)) = sval (ds ++ [x]) := by
  have hlen : ds.length < (ds ++ [x]).length := by simp
  have hget : (ds ++ [x])[ds.length] = x := by rw [List.getElem_append_right (Nat.le_refl _)]; simp
  have h := sign_ext (ds ++ [x]) ds.length hlen (by rw [hget]; exact hx) h9 (by rw [hget]; exact hs)
  rw [List.take_of_length_le (by simp)] at h
  exact h

theorem mayS9 {mn mx : Int} {bits : Nat} {ds : List UInt8} {x : UInt8} {r : Int} (hb : bits ≤ 64) (h : mayS (fun r => Span.has mn mx r = true) bits ds x r) (hx : x.toNat < 128) (hl : ds.length = 9) (hk : ds.length ≤ (bits - 1) / 7) :
    x.toNat = 0 ∨ x.toNat = 127 := by
  unfold mayS comes at h
  rw [if_pos hx] at h
  have hbits : bits = 64 := by omega
  subst hbits
  rcases h.2 with h | h | h
  · omega
  · omega
  · rw [hl] at h
    unfold alike at h
    simp only [show 64 - 7 * 9 - 1 = 0 by decide, Nat.pow_zero, Nat.div_one] at h
    exact h

theorem Sint_any {w : World} {C : Nat} {v : Value} {bs : List UInt8} {p : Nat} {lim : Int} (h : Cur w C v bs p lim 0) (hi : Inv bs.length lim p) (bits : Nat) (hb1 : 1 ≤ bits) (hb2 : bits ≤ 64) (mn mx : Int) :
    Calls Try.prog 23 #[.pointer (some ⟨C, 0, none⟩), .int .i64 bits, .agg #[.int .i64 mn, .int .i64 mx]] w (Got C v bs lim SintV (sintO bs lim (fun r => Span.has mn mx r = true) bits p) w) := by
  have HI := hid hi
  have H0 := hid h
  have hC := h.lt
  obtain ⟨O, hO⟩ : ∃ O, sintO bs lim (fun r => Span.has mn mx r = true) bits p = O := ⟨_, rfl⟩
  have HO := hid hO
  rw [hO]
  have e64 : (if (64 : Int) < bits then (64 : Int) else bits) = bits := by rw [if_neg (by omega)]
  have e1 : (if (bits : Int) < 1 then (1 : Int) else bits) = bits := by rw [if_neg (by omega)]
  obtain ⟨l, hl⟩ : ∃ l, (bits - 1) / 7 = l := ⟨_, rfl⟩
  have el : ((bits : Int) - 1) / 7 = (l : Int) := by rw [← hl]; omega
  have HL := hid hl
  clear hi h hO hl
  go_enter Try.func23, Try.ntmps23
  go_wp2_with fail
  have i0 : SInv C v bs lim mn mx bits O w [] 128 (w.heap.size + 1 + 1 + 1) p ((((w.alloc (.cells #[.int .i64 bits] 3)).alloc (.cells #[.int .i64 mn, .int .i64 mx] 68)).alloc (.cells #[.int .i64 l] 3)).alloc (.cells #[.int .i64 0] 3)) := by
    have nn : New w ((((w.alloc (.cells #[.int .i64 bits] 3)).alloc (.cells #[.int .i64 mn, .int .i64 mx] 68)).alloc (.cells #[.int .i64 l] 3)).alloc (.cells #[.int .i64 0] 3)) := ((((Upd.refl _ _).alloc _).alloc _).alloc _).alloc _
    refine ⟨New.upd nn, H0.out.new nn, HI.out, .mk (by simp), (((One1.mk rfl).push _).push _).push _, ?_, ?_, by omega, by simp, fun _ => ⟨by simp, HO.out⟩, fun h => absurd h (by decide)⟩
    · exact (Blk.new (Blk.new (by have := @Blk.mk (w.alloc (.cells #[.int .i64 bits] 3)) (.int .i64 mn) (.int .i64 mx) 68; simpa using this) ((Upd.refl _ _).alloc _)) ((Upd.refl _ _).alloc _))
    · rw [HL.out]; exact (One1.mk (by simp)).push _
  generalize ((((w.alloc (.cells #[.int .i64 bits] 3)).alloc (.cells #[.int .i64 mn, .int .i64 mx] 68)).alloc (.cells #[.int .i64 l] 3)).alloc (.cells #[.int .i64 0] 3)) = w0 at *
  have I0 := hid i0
  have el' := hid el
  clear i0 e64 e1 el
  go_loopg [8, 9, 10, 11] 11 (fun n vv uu kp x wr => ∃ (ds : List UInt8) (xv g q : Nat), n = 11 - ds.length ∧ vv = .int .u64 (vm ds : Nat) ∧ uu = .int .i64 (64 - 7 * ds.length : Nat) ∧ kp = .pointer (some ⟨g, 0, none⟩) ∧ x = .int .u8 xv ∧ SInv C v bs lim mn mx bits O w ds xv g q wr)
  case atStart => exact ⟨[], 128, _, p, rfl, rfl, rfl, rfl, rfl, I0.out⟩
  case round =>
    obtain ⟨ds, xv, g, q, rfl, rfl, rfl, rfl, rfl, hi⟩ := hrel
    have IR := hid hi
    clear hi I0
    obtain ⟨k, hk⟩ : ∃ k, ds.length = k := ⟨_, rfl⟩
    have hl9 : l ≤ 9 := by rw [← HL.out]; omega
    by_cases h128 : 128 ≤ xv
    · obtain ⟨hll, hnum⟩ := IR.out.go h128
      have hd : decide ((128 : Int) ≤ (xv : Int)) = true := by simp; omega
      rw [hk, HL.out] at hll hnum
      obtain ⟨n, hn⟩ : ∃ n, l + 1 - k = n + 1 := ⟨l - k, by omega⟩
      rw [hn, numO_step] at hnum
      have HNUM := hid hnum
      have HNN := hid hn
      have HB := hid (Byte_any IR.out.cur IR.out.inv 53 #[.pointer (some ⟨w.heap.size + 1 + 1, 0, none⟩), .pointer (some ⟨g, 0, none⟩), .pointer (some ⟨w.heap.size + 1, 0, none⟩), .pointer (some ⟨w.heap.size, 0, none⟩)] (fun _ _ => rfl)
        (mayS (fun r => Span.has mn mx r = true) bits ds)
        (fun hp w1 hu hc r0 r1 => Sint1_any bits (w.heap.size + 1) g (w.heap.size + 1 + 1) w.heap.size ds bs[q] mn mx (rest lim (q + 1)) w1 r0 r1 (by rw [hk, HL.out]; exact hll) hb1 hb2
          (hu.cell IR.out.kb.c0 (by simp; omega)) (hu.cell IR.out.kb.c1 (by simp; omega)) (IR.out.kg.upd hu (by have := IR.out.ge; omega)).c (IR.out.kl.upd hu (by omega)).c (IR.out.kt.upd hu (by omega)).c))
      have hor := fun x => digit_or' ds x (by rw [hk]; omega)
      rw [hk] at hor
      have HOR := hid hor
      have HK := hid hk
      obtain ⟨v0, hv0⟩ : ∃ v0, vm ds = v0 := ⟨_, rfl⟩
      rw [hv0] at HOR
      obtain ⟨u0, hu0⟩ : ∃ u0, 64 - 7 * k = u0 := ⟨_, rfl⟩
      have hu1 : (u0 : Int) = 64 - 7 * (k : Int) := by omega
      rw [hk, hu0, hv0]
      have HU0 := hid hu0
      have HU1 := hid hu1
      clear hnum hk hn hor hv0 hu0 hu1
      have hmf : ∀ (fn : Fn) (first cap : Array Value) (w : World), (Instr.makeFunc fn first cap).run Try.prog w = .ok (.func fn first cap) w := fun _ _ _ _ => rfl
      go_wp2_with fail
      refine HB.out.mono ?_
      rintro e w4 ⟨hu4, hm4⟩
      have HU4 := hid hu4
      cases ho : byteO bs lim (mayS (fun r => Span.has mn mx r = true) bits ds) q with
      | up q' er =>
        rw [ho] at hm4
        obtain ⟨rfl, hc4⟩ := hm4
        have HO4 : Hid (O = .up q' er) := by show _ = _; rw [← HNUM.out, ho]; rfl
        have HC4 := hid hc4
        clear ho hc4 hu4 HNUM
        go_wp2_with fail
        exact ⟨rfl, Got.mk_up HO4.out (IR.out.up.trans HU4.out (fun _ _ h => h)) rfl HC4.out⟩
      | ok x q' =>
        rw [ho] at hm4
        obtain ⟨rfl, hc4⟩ := hm4
        have hbi := byteO_inv IR.out.inv ho
        have hbo := byteO_ok ho
        have HNUM4 : Hid ((if x.toNat < 128 then Out.ok (ds ++ [x]) q' else numO bs lim (mayS (fun r => Span.has mn mx r = true) bits) n (ds ++ [x]) q') = O) := by
          show _ = _
          rw [← HNUM.out, ho]; rfl
        have HBI := hid hbi
        have HBO := hid hbo
        have HC4 := hid hc4
        have kg4 := IR.out.kg.upd hu4 (by have := IR.out.ge; omega)
        rw [HK.out] at kg4
        have kt4 := hid (IR.out.kt.upd hu4 (by omega))
        have kl4 := hid (IR.out.kl.upd hu4 (by omega))
        have kb4 : Hid (Blk w4 (w.heap.size + 1) (.int .i64 mn) (.int .i64 mx) 68) := (hu4.block _ IR.out.kb.lt (by omega)).trans IR.out.kb
        have hor := HOR.out x
        obtain ⟨v1, hv1⟩ : ∃ v1, vm (ds ++ [x]) = v1 := ⟨_, rfl⟩
        rw [hv1] at hor
        have HV1 := hid hv1
        have zg := kg4.c
        have hx := u8_lt x
        have hge := IR.out.ge
        have U4 := hid (IR.out.up.trans HU4.out (fun _ _ h => h))
        have hu2 : u0 ≤ 64 := by have := HU0.out; omega
        clear ho hc4 hu4 hbi hbo kg4 hv1 HNUM HOR
        unfold cb
        go_wp2_with fail
        all_goals
          have hlen : (ds ++ [x]).length = k + 1 := by rw [List.length_append, HK.out]; rfl
          have hk9 : k ≤ 9 := by omega
          go_roundg (11 - (k + 1))
          case measure => rw [HK.out]; omega
          case rel =>
            refine ⟨ds ++ [x], x.toNat, w4.heap.size, q', by rw [hlen], by rw [HV1.out], ?_, rfl, rfl, ?_⟩
            · rw [hlen]
              have := HU1.out
              congr 1
              omega
            · refine ⟨U4.out.alloc _, HC4.out.new ((Upd.refl _ _).alloc _), HBI.out, ?_, kt4.out.push _, Blk.new kb4.out ((Upd.refl _ _).alloc _), kl4.out.push _, ?_, by rw [hlen, HL.out]; omega, ?_, ?_⟩
              · rw [hlen]; exact One1.mk rfl
              · have := kl4.out.lt; omega
              · intro h
                have h4 : k < l := by
                  rcases Nat.lt_or_ge k l with h' | h'
                  · exact h'
                  · have := mayS_last (by rw [HK.out, HL.out]; exact h') HBO.out.2.2.2.2
                    omega
                rw [hlen, HL.out]
                refine ⟨by omega, ?_⟩
                have := HNUM4.out
                rw [if_neg (by omega)] at this
                rw [show l + 1 - (k + 1) = n by have := HNN.out; omega]
                exact this
              · intro h
                have := HNUM4.out
                rw [if_pos h] at this
                exact ⟨this.symm, ds, x, rfl, rfl, fun h9 => mayS9 hb2 HBO.out.2.2.2.2 h h9 (by rw [HK.out, HL.out]; exact hll)⟩
    · have hd : decide ((128 : Int) ≤ (xv : Int)) = false := by simp; omega
      obtain ⟨hst, ds', x, rfl, hxv, h9⟩ := IR.out.st (by omega)
      have hlen : (ds' ++ [x]).length = ds'.length + 1 := by simp
      have hle := IR.out.len
      rw [hlen, HL.out] at hle
      have HS := hid (sext ds' x (by omega) (by omega) h9)
      have HST := hid hst
      obtain ⟨v0, hv0⟩ : ∃ v0, vm (ds' ++ [x]) = v0 := ⟨_, rfl⟩
      obtain ⟨u0, hu0⟩ : ∃ u0, 64 - 7 * (ds'.length + 1) = u0 := ⟨_, rfl⟩
      rw [hlen, hu0, hv0]
      rw [hv0, hu0] at HS
      have hu2 : u0 ≤ 64 := by omega
      clear hst hv0 hu0 hk
      go_wp2_with fail
      go_ret
      refine Got.mk_ok HST.out IR.out.up ?_ IR.out.cur
      unfold SintV
      rw [← HS.out, ← wrap64_i64]
      rfl
end Go.Proofs.Ytkfohickmdkplaa
