/-
  What a block is like: right, put; a text's bytes as types; an instruction's shape.
-/
import Derived.Test.YtnngibflnnmioaaLst
import Derived.Test.YtnngibflnnmioaaOpT
namespace Go.Proofs.Ytnngibflnnmioaa
open Go.RowKit Go.Proofs.Leb Go.Proofs.Own
set_option maxRecDepth 100000
set_option maxHeartbeats 2000000

def btV (k t i : Int) : Bool := if k = 0 then decide (t = 0 ∧ i = 0) else if k = 1 then decide (i = 0) && valV t else decide (k = 2 ∧ t = 0)
theorem btRight_any (k t i : Int) (w : World) : Calls Try.prog 30 #[.agg #[.int .i64 k, .int .u8 t, .int .u32 i]] w (IsNew (btV k t i) w) := by
  by_cases h0 : k = 0
  · subst h0
    rw [show btV 0 t i = decide (t = 0 ∧ i = 0) from rfl]
    go_enter Try.func30, Try.ntmps30
    go_wp2_with fail
    all_goals go_ret
    all_goals refine ⟨?_, (Upd.refl _ _).alloc _⟩
    all_goals simp_all
  · have e0 : (k == 0) = false := beq_eq_false_iff_ne.mpr h0
    by_cases h1 : k = 1
    · subst h1
      have HV := hid (fun w => vright_any t w)
      rw [show btV 1 t i = (decide (i = 0) && valV t) from rfl]
      generalize valV t = b at *
      clear h0
      by_cases hi : i = 0
      · subst hi
        go_enter Try.func30, Try.ntmps30
        go_wp2_with fail
        refine (HV.out _).mono ?_
        rintro e w' ⟨rfl, rfl⟩
        go_wp2_with fail
        go_ret
        exact ⟨rfl, (Upd.refl _ _).alloc _⟩
      · have ei : (i == 0) = false := beq_eq_false_iff_ne.mpr hi
        rw [show decide (i = 0) = false from decide_eq_false hi, Bool.false_and]
        clear hi
        go_enter Try.func30, Try.ntmps30
        go_wp2_with fail
        go_ret
        exact ⟨rfl, (Upd.refl _ _).alloc _⟩
    · have e1 : (k == 1) = false := beq_eq_false_iff_ne.mpr h1
      rw [show btV k t i = decide (k = 2 ∧ t = 0) by unfold btV; rw [if_neg h0, if_neg h1]]
      by_cases h2 : k = 2
      · subst h2
        by_cases ht : t = 0
        · subst ht
          go_enter Try.func30, Try.ntmps30
          go_wp2_with fail
          go_ret
          exact ⟨rfl, (Upd.refl _ _).alloc _⟩
        · have ei : (t == 0) = false := beq_eq_false_iff_ne.mpr ht
          rw [show decide ((2 : Int) = 2 ∧ t = 0) = false from decide_eq_false (fun h => ht h.2)]
          clear ht
          go_enter Try.func30, Try.ntmps30
          go_wp2_with fail
          go_ret
          exact ⟨rfl, (Upd.refl _ _).alloc _⟩
      · have e2 : (k == 2) = false := beq_eq_false_iff_ne.mpr h2
        rw [show decide (k = 2 ∧ t = 0) = false from decide_eq_false (fun h => h2 h.1)]
        clear h0 h1 h2
        go_enter Try.func30, Try.ntmps30
        go_wp2_with fail
        go_ret
        exact ⟨rfl, (Upd.refl _ _).alloc _⟩

def btB (k : Int) (t i : Nat) : List UInt8 := if k = 1 then [UInt8.ofNat t] else if k = 2 then encS i 0 else [64]
theorem btPut_any (k : Int) (t i : Nat) (v : Value) (bs : List UInt8) (w : World) (ht : t < 256) (hi : i < 4294967296) (hb : Bytes w v bs) (h1 : bs.length ≤ 100000) :
    Calls Try.prog 39 #[.agg #[.int .i64 k, .int .u8 t, .int .u32 i], v] w (Post w v (bs ++ btB k t i)) := by
  have hN := (Upd.refl (fun _ => False) w).alloc (.cells #[.int .i64 k, .int .u8 t, .int .u32 i] 31)
  have HB := hid (hb.new hN)
  have HN := hid hN
  clear hb hN
  by_cases e1 : k = 1
  · subst e1
    rw [show btB 1 t i = [UInt8.ofNat t] from rfl]
    go_enter Try.func39, Try.ntmps39
    go_wp2_with (at_builtin; refine hold ?_)
    refine appB (.tmp 9) (.tmp 12) (UInt8.ofNat t) HB.out (by rw [u8_of _ ht]) (by omega) rfl rfl rfl (by rw [World.size_alloc]; rfl) ?_
    intro v' w1 hb1 ha1
    have HB1 := hid hb1
    have HA1 := hid (Adds.ahead HN.out ha1)
    clear hb1 ha1
    go_wp2_with fail
    go_ret
    exact ⟨_, rfl, HB1.out, HA1.out⟩
  · have b1 : (k == 1) = false := beq_eq_false_iff_ne.mpr e1
    by_cases e2 : k = 2
    · subst e2
      rw [show btB 2 t i = encS i 0 from rfl]
      have HP := hid (putS_any v bs i _ (by omega) (by omega) (by omega) HB.out)
      clear e1 b1
      go_enter Try.func39, Try.ntmps39
      go_wp2_with fail
      refine HP.out.mono ?_
      rintro e w1 ⟨v', rfl, hb1, ha1⟩
      have HB1 := hid hb1
      have HA1 := hid (Adds.ahead HN.out ha1)
      clear hb1 ha1
      go_wp2_with fail
      go_ret
      exact ⟨_, rfl, HB1.out, HA1.out⟩
    · have b2 : (k == 2) = false := beq_eq_false_iff_ne.mpr e2
      rw [show btB k t i = [64] by unfold btB; rw [if_neg e1, if_neg e2]]
      clear e1 e2
      go_enter Try.func39, Try.ntmps39
      go_wp2_with (at_builtin; refine hold ?_)
      refine appB (.tmp 21) (.tmp 22) 64 HB.out rfl (by omega) rfl rfl rfl (by rw [World.size_alloc]; rfl) ?_
      intro v' w1 hb1 ha1
      have HB1 := hid hb1
      have HA1 := hid (Adds.ahead HN.out ha1)
      clear hb1 ha1
      go_wp2_with fail
      go_ret
      exact ⟨_, rfl, HB1.out, HA1.out⟩

theorem rShape_any (p c k t i x y : Int) (l n lane : Value) (s u : Value) (w : World) (c0 : 0 ≤ c) (c1 : c < 4294967296) :
    Calls Try.prog 24 #[.agg #[.int .u8 p, .int .u32 c, .int .i64 k, .int .u8 t, .int .u32 i, .int .u32 x, .int .u32 y, l, n, s, lane, u]] w (VecP (shapeV p c) w) := by
  have HS := hid (fun w => Shape_any p c w c0 c1)
  generalize shapeV p c = r at *
  have HN := hid (fun o => (Upd.refl (fun _ => False) w).alloc o)
  go_enter Try.func24, Try.ntmps24
  go_wp2_with fail
  refine (HS.out _).mono ?_
  rintro e wa ⟨rfl, hn⟩
  go_wp2_with fail
  go_ret2
  exact ⟨rfl, New.trans (HN.out _) hn⟩

/-- a row of types that the call owns -/
def VBytes (w : World) (v : Value) (bs : List UInt8) : Prop := w.ownsRow 0 29 1 v bs.length (bs.map cb)
theorem infoV : (Try.prog.info? 29).map (fun i => (i.zero, i.size, i.bytes)) = some (some (.int .u8 0), 1, 1) := by kernel_rfl
theorem VBytes.rd {w : World} {v : Value} {bs : List UInt8} (h : VBytes w v bs) : Rd w v bs := by
  obtain ⟨h1, h2⟩ := h
  rcases h2 with ⟨rfl, hn⟩ | ⟨g, cap, cur, rfl, _, hg, hn, hm, hs, ht⟩
  · have : bs = [] := List.eq_nil_of_length_eq_zero hn
    subst this
    exact Rd.nil w
  · refine ⟨_, cap, rfl, hn, (fun h => by cases h), fun _ => ⟨g, 0, rfl, fun i hi => ?_⟩⟩
    have hown : w.ownsRow 0 29 1 (.slice (some ⟨g, 0, none⟩) bs.length cap) bs.length (bs.map cb) := ⟨h1, .inr ⟨g, cap, cur, rfl, Nat.zero_le _, hg, hn, hm, hs, ht⟩⟩
    have := hown.cells (g := g) rfl i (cb bs[i]) (by simp [hi])
    rwa [Addr.add_lit] at this
theorem VBytes.one {w : World} {v : Value} {bs : List UInt8} (x : UInt8) (hw : w.ownsRow 0 29 1 v (bs.length + 1) (bs.map cb ++ [.int .u8 x.toNat])) : VBytes w v (bs ++ [x]) := by
  unfold VBytes
  rw [List.length_append, List.map_append]
  exact hw
/-- append of one type, at a goal that is held -/
theorem appV {ops : Array Oper} {rest : List Oper} {o : Oper} {a : Act} {Q : Exit → Act → World → Prop} {w : World} (s x : Operand) (u : UInt8) {v : Value} {d : List UInt8}
    (hb : VBytes w v d) (hl : d.length ≤ 1000000000) (hgd : o.guard = none) (ho : o.op = .call { callee := .builtin .append, args := #[s, x], argTypes := #[32, 32] })
    (hs : a.eval s = v) (hx : a.eval x = .slice (some ⟨w.heap.size, 0, none⟩) 1 1)
    (h : ∀ v' w', VBytes w' v' (d ++ [u]) → Adds w w' v v' → wpList Try.prog ops Q rest (a.put o.dst v') w') :
    Hold (wpList Try.prog ops Q (o :: rest) a (w.alloc (.cells #[.int .u8 u.toNat] 29))) :=
  held_append1 32 29 1 (.int .u8 0) infoV Try.underlying32 rfl s x hgd ho 0 v _ _ hs hb (.int .u8 u.toNat) hx rfl (by unfold maxLen; omega) (by omega) (Nat.zero_le _)
    fun v' w' h1 h2 => h v' w' (VBytes.one u h1) h2

theorem lawVals_any (s : ByteArray) (w : World) (hs : s.size ≤ 100000) :
    Calls Try.prog 23 #[.string s] w fun e w' => ∃ v', e = .returned v' ∧ Rd w' v' (lb s) ∧ New w w' ∧ Fresh w v' ∧ (∀ k, v'.ownBlock = some k → k < w'.heap.size) := by
  go_enter Try.func23, Try.ntmps23
  go_wp2_with fail
  go_loopw [3, 4] (fun b c wr => ∃ i : Nat, c = .int .i64 i ∧ i ≤ s.size ∧ VBytes wr b ((lb s).take i) ∧ New w wr ∧ Fresh w b) (fun _ c _ => s.size - (intOf c).toNat)
  case atStart => exact ⟨0, rfl, by omega, World.ownsRow_nil w 0 _ 1, Upd.refl _ _, fun k hk => by cases hk⟩
  case round =>
    obtain ⟨i, rfl, hi1, hb, hn, hf⟩ := hrel
    have HN := hid hn
    have HF := hid hf
    clear hn hf
    by_cases hi : i < s.size
    · have hg := lb_get s i hi
      obtain ⟨x, hx⟩ : ∃ x, s[i] = x := ⟨_, rfl⟩
      rw [hx] at hg
      have hx2 : s[i].toNat = x.toNat := by rw [hx]
      have HG := hid hg
      have hlen : ((lb s).take i).length ≤ 100000 := by simp [lb_len]; omega
      clear hg hx
      go_wp2_with (at_builtin; refine hold ?_)
      refine appV (.tmp 11) (.tmp 15) x hb (by omega) rfl rfl rfl rfl ?_
      intro v' w1 hb1 ha1
      have hn1 := Upd.newAdds HN.out HF.out ha1
      have hf1 := Fresh.adds HF.out HN.out.size ha1
      clear ha1 hb
      go_wp2_with fail
      go_roundw
      case rel =>
        refine ⟨i + 1, by go_num, by omega, ?_, hn1, hf1⟩
        rw [List.take_add_one, HG.out]
        exact hb1
      case measure => simp [intOf]; omega
    · have e : i = s.size := by omega
      subst e
      rw [← lb_len, List.take_length] at hb
      obtain ⟨ab, cb', rfl⟩ := hb.rd.shape
      have HB := hid hb.rd
      have HT := hid (fun k (hk : (Value.slice ab (lb s).length cb').ownBlock = some k) => (World.ownsRow.lt hb k hk).2)
      clear hb
      go_wp2_with fail
      go_ret
      exact ⟨_, rfl, HB.out, HN.out, HF.out, HT.out⟩
end Go.Proofs.Ytnngibflnnmioaa
