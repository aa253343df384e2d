/-
  WtypeBack, walked.
-/
import Derived.Test.YtjagimlmclejeaaJ40
import Derived.Test.YtjagimlmclejeaaJ43
namespace Go.Proofs.Ytjagimlmclejeaa
open Go.RowKit Go.Proofs.Leb Go.Proofs.Own
set_option maxRecDepth 100000
set_option maxHeartbeats 8000000

theorem frozenAt' {w : World} {g : Nat} {cs : Array Value} {t : TypeId} (h : w.heap[g]? = some (.cells cs t)) (i : Nat) : w.frozen? ⟨g, i, none⟩ = false := by simp [World.frozen?, h]
theorem hp_set' {w : World} {g : Nat} {cs : Array Value} {t : TypeId} (h : w.heap[g]? = some (.cells cs t)) (i : Nat) (v : Value) : (w.setCell ⟨g, i, none⟩ v).heap[g]? = some (.cells (cs.setIfInBounds i v) t) := by
  simp [World.setCell, Array.getElem?_modify, h]
/-- behind '!x.T.Limits.HasMax' -/
def fixT (x : TyM) : TyM := { x with tx := if x.th = true then x.tx else 0 }

theorem wtypeBack_walk (w : World) (x : TyM) (c : Nat) (hx : TyWf x) (hc : c < 256) : Calls Try.prog 4 #[.agg (tyC x), .int .u8 c] w (True' w) := by
  have z1 := hx.p
  have z2 := hx.r
  have HX := hid hx
  by_cases q1 : 300 < x.p.size
  · have e1 : decide (300 < (x.p.size : Int)) = true := decide_eq_true (by omega)
    have HN : Hid (New w (w.alloc (.cells (tyC x) 32))) := (Upd.refl _ _).alloc _
    unfold tyC at *
    go_enter Try.func4, Try.ntmps4
    go_wp2_with fail
    go_ret
    exact ⟨rfl, HN.out⟩
  have e1 : decide (300 < (x.p.size : Int)) = false := decide_eq_false (by omega)
  by_cases q2 : 300 < x.r.size
  · have e2 : decide (300 < (x.r.size : Int)) = true := decide_eq_true (by omega)
    have HN : Hid (New w (w.alloc (.cells (tyC x) 32))) := (Upd.refl _ _).alloc _
    unfold tyC at *
    go_enter Try.func4, Try.ntmps4
    go_wp2_with fail
    go_ret
    exact ⟨rfl, HN.out⟩
  have e2 : decide (300 < (x.r.size : Int)) = false := decide_eq_false (by omega)
  have HV1 := hid (fun w' => vals_ref x.p w' (by omega))
  have HV2 := hid (fun w' => vals_ref x.r w' (by omega))
  have HRF := hid (fun w' => rref_any x.e.toNat w')
  have HGV := hid (fun w' => rval_any x.gt.toNat w')
  obtain ⟨c1, hc1⟩ : ∃ c, valsV (lb x.p) = c := ⟨_, rfl⟩
  obtain ⟨c2, hc2⟩ : ∃ c, valsV (lb x.r) = c := ⟨_, rfl⟩
  obtain ⟨rf, hrf⟩ : ∃ c, refV x.e.toNat = c := ⟨_, rfl⟩
  obtain ⟨gv, hgv⟩ : ∃ c, valV x.gt.toNat = c := ⟨_, rfl⟩
  rw [hc1] at HV1
  rw [hc2] at HV2
  rw [hrf] at HRF
  rw [hgv] at HGV
  have HQ1 := hid (Nat.not_lt.mp q1)
  have HQ2 := hid (Nat.not_lt.mp q2)
  have HC1 := hid hc1
  have HC2 := hid hc2
  have HR := hid hrf
  have HG := hid hgv
  have HB0 : Hid (Xb w x (w.alloc (.cells (tyC x) 32))) := ⟨(Upd.refl _ _).alloc _, hp_new rfl⟩
  have HW0 : Hid (∃ w0, w.alloc (.cells (tyC x) 32) = w0) := ⟨_, rfl⟩
  obtain ⟨w0, hw0⟩ := HW0.out
  rw [hw0] at HB0
  have HWW := hid hw0
  have a1 : w0.cell? ⟨w.heap.size, 1, none⟩ = some (.string x.p) := HB0.out.atx 1 rfl
  have a2 : w0.cell? ⟨w.heap.size, 2, none⟩ = some (.string x.r) := HB0.out.atx 2 rfl
  have a6 : w0.cell? ⟨w.heap.size, 6, none⟩ = some (.int .u8 x.e.toNat) := HB0.out.atx 6 rfl
  have a7 : w0.cell? ⟨w.heap.size, 7, none⟩ = some (.bool x.th) := HB0.out.atx 7 rfl
  have a10 : w0.cell? ⟨w.heap.size, 10, none⟩ = some (.int .u8 x.gt.toNat) := HB0.out.atx 10 rfl
  clear q1 q2 hc1 hc2 hrf hgv hx HW0 hw0
  unfold tyC at HWW ⊢
  go_enter Try.func4, Try.ntmps4
  go_upto_region 1 with fail
  rw [HWW.out]
  clear HWW
  generalize Value.agg #[.int .u8 x.v.toNat, .string x.p, .string x.r, .bool x.lh, .int .u32 (x.ln : Nat), .int .u32 (x.lx : Nat), .int .u8 x.e.toNat, .bool x.th, .int .u32 (x.tn : Nat), .int .u32 (x.tx : Nat), .int .u8 x.gt.toNat, .bool x.gm] = A0 at *
  go_wp2_with fail
  refine (HV1.out _).mono ?_
  rintro e w' ⟨rfl, rfl⟩
  cases c1 with
  | false =>
    go_wp2_with fail
    go_ret
    exact ⟨rfl, HB0.out.1⟩
  | true =>
  go_wp2_with fail
  refine (HV2.out _).mono ?_
  rintro e w' ⟨rfl, rfl⟩
  cases c2 with
  | false =>
    go_wp2_with fail
    go_ret
    exact ⟨rfl, HB0.out.1⟩
  | true =>
  go_wp2_with fail
  refine (HRF.out _).mono ?_
  rintro e w' ⟨rfl, rfl⟩
  cases rf with
  | false =>
    go_wp2_with fail
    go_ret
    exact ⟨rfl, HB0.out.1⟩
  | true =>
  go_wp2_with fail
  refine (HGV.out _).mono ?_
  rintro e w' ⟨rfl, rfl⟩
  cases gv with
  | false =>
    go_wp2_with fail
    go_ret
    exact ⟨rfl, HB0.out.1⟩
  | true =>
  have HOK : Hid (TyOk (fixT x)) := by
    refine ⟨⟨HX.out.p, HX.out.r, HX.out.ln, HX.out.lx, HX.out.tn, ?_⟩, HQ1.out, HQ2.out, HC1.out, HC2.out, HR.out, HG.out, ?_⟩
    · unfold fixT; simp only; split
      · exact HX.out.tx
      · decide
    · intro h; unfold fixT at h ⊢; simp only at h ⊢; rw [if_neg (by rw [h]; decide)]
  clear HV1 HV2 HRF HGV HC1 HC2 HR HG HX z1 z2 e1 e2
  -- no greatest count: it is 0
  have hfz : w0.frozen? ⟨w.heap.size, 9, none⟩ = false := frozenAt' HB0.out.2 9
  have a9 : w0.cell? ⟨w.heap.size, 9, none⟩ = some (.int .u32 (x.tx : Nat)) := HB0.out.atx 9 rfl
  obtain ⟨th, hth⟩ : ∃ b, x.th = b := ⟨_, rfl⟩
  rw [hth] at a7
  have HTH := hid hth
  clear hth
  go_upto_if 58 with fail
  go_cut [14] (fun _ wx => Xb w (fixT x) wx)
  case first =>
    cases th with
    | true =>
      have HXX : Hid (fixT x = x) := by show _ = _; unfold fixT; rw [if_pos HTH.out]
      go_wp2_with fail
      go_meet
      rw [HXX.out]
      exact HB0.out
    | false =>
      have HXX : Hid (Xb w (fixT x) (w0.setCell ⟨w.heap.size, 9, none⟩ (.int .u32 0))) := by
        refine ⟨Upd.setCell HB0.out.1 (.inl (Nat.le_refl _)) _, ?_⟩
        have h2 := hp_set' HB0.out.2 9 (.int .u32 0)
        rw [h2]
        unfold tyC fixT
        rw [if_neg (by rw [HTH.out]; decide)]
        rfl
      go_wp2_with fail
      go_meet
      exact HXX.out
  case rest =>
  obtain ⟨w1, rfl⟩ : ∃ w1, w1 = wc := ⟨_, rfl⟩
  obtain ⟨X, hX⟩ : ∃ X, fixT x = X := ⟨_, rfl⟩
  rw [hX] at hcut HOK
  have HXB := hid hcut
  clear hcut hX hfz HTH a9 a1 a2 a6 a7 a10 HB0
  obtain ⟨n, hn5, hnc⟩ : ∃ n, n < 5 ∧ (c : Int).tmod 5 = (n : Nat) := ⟨c % 5, by omega, by rw [Int.tmod_eq_emod_of_nonneg (by omega)]; omega⟩
  go_upto_region 5 with fail
  go_cut [5] (fun v wx => v = .int .i64 (n : Nat) ∧ wx = w1)
  case first =>
    go_wp2_with fail
    go_meet
    exact ⟨rfl, rfl⟩
  case rest =>
  obtain ⟨rfl, rfl⟩ := hcut
  clear hnc
  go_upto_region 6 with fail
  go_cut [6] (fun b wx => ∃ g a cap, b = .pointer (some ⟨g, 0, none⟩) ∧ w.heap.size < g ∧ Yb w X g (.slice a (allB X n).length cap) (allB X n) wx)
  case first =>
    refine wb6_any w _ X n HXB.out HOK.out hn5 _ _ _ _ _ _ _ _ _ _ _ _ _ _ _ _ _ _ _ _ _ _ _ _ _ _ _ _ _ _ _ _ _ _ _ _ _ _ _ _ _ _ _ _ _ _ _ _ _ _ _ _ _ _ _ _ _ _ _ _ _ _ _ _ _ _ _ _ _ _ _ _ _ _ _ _ _ _ _ _ _ _ _ _ _ _ _ _ _ _ _ _ _ _ _ _ _ _ _ _ _ _ _ _ _ _ _ _ _ _ _ _ _ _ _ _ _ _ _ _ _ _ _ _ _ _ _ _ _ _ _ _ _ _ _ _ _ _ _ ?_
    intro v65 v66 v67 v68 v69 v70 v71 v72 v73 v74 v75 v76 v77 v78 g6 a6 c6 W6 hl6 h6
    dsimp only
    go_wp2_with fail
    go_meet
    exact ⟨g6, a6, c6, rfl, hl6, h6⟩
  case rest =>
  obtain ⟨g6, a6, c6, rfl, hl6, hy⟩ := hcut
  obtain ⟨w2, rfl⟩ : ∃ w2, w2 = wc := ⟨_, rfl⟩
  have hne : ∀ m, allB X m ≠ [] := fun m e => by have := congrArg List.length e; unfold allB fnB at this; simp at this
  have HNE := hid hne
  have HY := hid hy
  clear hy hne
  go_upto_region 7 with fail
  go_cut [7] (fun v wx => ∃ a7 c7, v = .slice a7 (allB X 0).length c7 ∧ Bytes wx (.slice a7 (allB X 0).length c7) (allB X 0) ∧ Yb w X g6 (.slice a6 (allB X n).length c6) (allB X n) wx ∧ (Value.slice a7 (allB X 0).length c7).ownBlock ≠ some g6)
  case first =>
    refine wb7_any w _ X g6 _ (allB X n) HY.out HOK.out (HY.out.r6.there (HNE.out n)) _ _ _ _ _ _ _ _ _ _ _ _ _ _ _ _ _ _ _ _ _ _ _ _ _ _ _ _ _ _ _ _ _ _ _ _ _ _ _ _ _ _ _ _ _ _ _ _ _ _ _ _ _ _ _ _ _ _ _ _ _ _ _ _ _ _ _ _ _ _ _ _ _ _ _ _ _ _ _ _ _ _ _ _ _ _ _ _ _ _ _ _ _ _ _ _ _ _ _ _ _ _ _ _ _ _ _ _ _ _ _ _ _ _ _ _ _ _ _ _ _ _ _ _ _ _ _ _ _ _ _ _ _ _ _ _ _ _ _ _ ?_
    intro v79 v80 v81 v82 v83 v84 v85 v86 v87 v88 v89 v90 a7 c7 W7 h7 h8 h9
    dsimp only
    go_wp2_with fail
    go_meet
    exact ⟨a7, c7, rfl, h7, h8, h9⟩
  case rest =>
  obtain ⟨a7, c7, rfl, hb7, hy, hne7⟩ := hcut
  have HN7 := hid hne7
  clear hne7
  obtain ⟨w3, rfl⟩ : ∃ w3, w3 = wc := ⟨_, rfl⟩
  have HB7 := hid hb7
  have HY3 := hid hy
  clear hb7 hy HY
  go_upto_region 8 with fail
  go_cut [99] (fun v wx => v = .bool false ∧ wx = w3)
  case first =>
    have hs7 := HB7.out.rd.str
    have hs6 := HY3.out.r6.str
    have z6 := HY3.out.b6.c
    by_cases h0 : n = 0
    · subst h0
      generalize allB X 0 = LB at *
      go_wp2_with fail
      go_meet
      exact ⟨rfl, rfl⟩
    · have hd : ((n : Int) == 0) = false := by rw [beq_eq_false_iff_ne]; omega
      generalize allB X 0 = SB at *
      generalize allB X n = LB at *
      clear h0
      go_wp2_with fail
      go_meet
      exact ⟨rfl, rfl⟩
  case rest =>
  obtain ⟨rfl, rfl⟩ := hcut
  have HAW := hid awake05_any
  have HTRY : Hid (∀ (m : Nat) (bs : List UInt8), allB X m = bs → ∀ (g9 g10 g11 : Nat) (a : Option Addr) (cap : Nat) (o9 o10 o11 : Array Value) (W : World), One1 W g6 (.slice a bs.length cap) → Rd W (.slice a bs.length cap) bs → W.heap[g9]? = some (.cells o9 35) → W.heap[g10]? = some (.cells o10 44) → W.heap[g11]? = some (.cells o11 41) →
      o9.size = 2 → o10.size = 2 → o11.size = 4 → (Value.slice a bs.length cap).ownBlock ≠ some g9 → (Value.slice a bs.length cap).ownBlock ≠ some g10 → (Value.slice a bs.length cap).ownBlock ≠ some g11 →
      Calls Try.prog 30 #[.slice a bs.length cap, .func (.func 31) #[] #[.pointer (some ⟨g6, 0, none⟩), .pointer (some ⟨g9, 0, none⟩), .pointer (some ⟨g10, 0, none⟩), .pointer (some ⟨g11, 0, none⟩)]] W
        fun e w' => e = .returned (.tuple #[.int .i64 bs.length, .int .i64 0]) ∧ Upd (G3 g9 g10 g11) W w' ∧ Bk g9 g10 g11 X (W.heap.size + 4) w') := fun m bs e => by
    subst e
    intro g9 g10 g11 a cap o9 o10 o11 W h1 h2 h3 h4 h5 h6 h7 h8 h9 h10 h11
    exact bkTry_any HOK.out m g6 g9 g10 g11 a cap o9 o10 o11 W h1 h2 h3 h4 h5 h6 h7 h8 h9 h10 h11
  have hmf : ∀ (fn : Fn) (first cap : Array Value) (w : World), (Instr.makeFunc fn first cap).run Try.prog w = .ok (.func fn first cap) w := fun _ _ _ _ => rfl
  have HP := hid HOK.out.p
  have HR := hid HOK.out.r
  obtain ⟨LB, hLB⟩ : ∃ L, allB X n = L := ⟨_, rfl⟩
  obtain ⟨SB, hSB⟩ : ∃ L, allB X 0 = L := ⟨_, rfl⟩
  rw [hLB] at HY3
  rw [hSB] at HB7 HN7
  have HLB := hid hLB
  have HSB := hid hSB
  rw [hSB]
  clear hLB hSB
  go_upto_region 10 with fail
  go_wp2_with fail
  go_loopg [8] (2 - 0) (fun kk c wr => ∃ k m bs a cap, kk = 2 - k ∧ c = .int .i64 (k : Nat) ∧ k ≤ 2 ∧ Hid (allB X m = bs) ∧ Yb w X g6 (.slice a bs.length cap) bs wr ∧ Bytes wr (.slice a7 SB.length c7) SB)
  case atStart => exact ⟨0, n, LB, a6, c6, rfl, rfl, by omega, HLB.out, HY3.out, HB7.out⟩
  case round =>
    obtain ⟨k, m, bs, a, cap, hkk, rfl, hk2, hbs, hy, hb7⟩ := hrel
    by_cases hk : k < 2
    · have hd : decide ((k : Int) < 2) = true := decide_eq_true (by omega)
      have hnb : bs ≠ [] := fun e => HNE.out m (hbs.out.trans e)
      have hown := hy.r6.there hnb
      have z6 : (((wr.alloc (.cells #[.slice none 0 0, .slice none 0 0] 35)).alloc (.cells #[.int .u8 0, .bool false] 44)).alloc (.cells #[.int .u8 0, .bool false, .int .u32 0, .int .u32 0] 41)).cell? ⟨g6, 0, none⟩ = some (.slice a bs.length cap) := (((hy.b6.push _).push _).push _).c
      have hu3 : New wr (((wr.alloc (.cells #[.slice none 0 0, .slice none 0 0] 35)).alloc (.cells #[.int .u8 0, .bool false] 44)).alloc (.cells #[.int .u8 0, .bool false, .int .u32 0, .int .u32 0] 41)) := (((Upd.refl _ _).alloc _).alloc _).alloc _
      have h9 : (((wr.alloc (.cells #[.slice none 0 0, .slice none 0 0] 35)).alloc (.cells #[.int .u8 0, .bool false] 44)).alloc (.cells #[.int .u8 0, .bool false, .int .u32 0, .int .u32 0] 41)).heap[wr.heap.size]? = some (.cells #[.slice none 0 0, .slice none 0 0] 35) := hp_old (by simp; omega) (hp_old (by simp) (hp_new rfl))
      have h10 : (((wr.alloc (.cells #[.slice none 0 0, .slice none 0 0] 35)).alloc (.cells #[.int .u8 0, .bool false] 44)).alloc (.cells #[.int .u8 0, .bool false, .int .u32 0, .int .u32 0] 41)).heap[wr.heap.size + 1]? = some (.cells #[.int .u8 0, .bool false] 44) := hp_old (by simp) (hp_new (by simp))
      have h11 : (((wr.alloc (.cells #[.slice none 0 0, .slice none 0 0] 35)).alloc (.cells #[.int .u8 0, .bool false] 44)).alloc (.cells #[.int .u8 0, .bool false, .int .u32 0, .int .u32 0] 41)).heap[wr.heap.size + 1 + 1]? = some (.cells #[.int .u8 0, .bool false, .int .u32 0, .int .u32 0] 41) := hp_new (by simp)
      have ht := HTRY.out m bs hbs.out wr.heap.size (wr.heap.size + 1) (wr.heap.size + 1 + 1) a cap _ _ _ _ (hy.b6.new hu3) (hy.r6.new hu3) h9 h10 h11 rfl rfl rfl (fun e => by have := hown _ e; omega) (fun e => by have := hown _ e; omega) (fun e => by have := hown _ e; omega)
      have HT := hid ht
      have HYW := hid (hy.new hu3)
      have HB3 := hid (hb7.new hu3)
      have HLT := hid (fun k (hk : (Value.slice a7 SB.length c7).ownBlock = some k) => hb7.lt k hk)
      have hg6 := hy.b6.lt
      have HX := hid hy.xb.lt
      have hg6w := hl6
      clear ht hy hb7 hu3 h9 h10 h11 hnb hown
      go_wp2_with fail
      refine HT.out.mono ?_
      rintro e w4 ⟨rfl, hu, a1, d1, a2, d2, k9, kr1, kr2, -, -, k10, k11⟩
      have H17 : Hid (R17 w X g6 wr.heap.size (wr.heap.size + 1) (wr.heap.size + 1 + 1) (.slice a bs.length cap) a1 a2 d1 d2 w4) := by
        have hX := HX.out
        have hx2 := HYW.out.xb.upd hu (fun k hk => by unfold G3 at hk; omega)
        exact ⟨hx2.1, hx2.2, HYW.out.b6.upd hu (by unfold G3; omega), k9, kr1, kr2, k10, k11⟩
      have HB4 := hid (HB3.out.upd hu (fun k hk hS => by have := HLT.out k hk; unfold G3 at hS; omega))
      clear hu k9 kr1 kr2 k10 k11 z6
      go_upto_region 17 with fail
      go_cut [138] (fun v wx => v = .bool false ∧ R17 w X g6 wr.heap.size (wr.heap.size + 1) (wr.heap.size + 1 + 1) (.slice a bs.length cap) a1 a2 d1 d2 wx ∧ Bytes wx (.slice a7 SB.length c7) SB)
      case first =>
        refine wb17_any w w4 X g6 wr.heap.size (wr.heap.size + 1) (wr.heap.size + 1 + 1) bs.length cap d1 d2 a a1 a2 H17.out HP.out HR.out _ _ _ _ _ _ _ _ _ _ _ _ _ _ _ _ _ _ _ _ _ _ _ _ _ _ _ _ _ _ _ _ _ _ _ _ _ _ _ _ _ _ _ _ _ _ _ _ _ _ _ _ _ _ _ _ _ _ _ _ _ _ _ _ _ _ _ _ _ _ _ _ _ _ _ _ _ _ _ _ _ _ _ _ _ _ _ _ _ _ _ _ _ _ _ _ _ _ _ _ _ _ _ _ _ _ _ _ _ _ _ _ _ _ _ _ _ _ _ _ _ _ _ _ _ _ _ _ _ _ _ _ _ _ ?_
        intro v110 v111 v112 v113 v114 v115 v116 v117 v118 v119 v120 v121 v122 v123 v124 v125 v126 v127 v128 v129 v130 v131 v132 v133 v134 v135 v136 v137 W7 h7 hn7
        dsimp only
        go_wp2_with fail
        go_meet
        exact ⟨rfl, h7, HB4.out.new hn7⟩
      case rest =>
        obtain ⟨rfl, h7, hb7⟩ := hcut
        obtain ⟨w7, rfl⟩ : ∃ w7, w7 = wc := ⟨_, rfl⟩
        have z6 := h7.b6.c
        have f6 := h7.b6.f
        have hus : Upd (fun k => k = g6) w7 (w7.setCell ⟨g6, 0, none⟩ (.slice a7 SB.length c7)) := (Upd.refl (fun k => k = g6) w7).setCell (p := ⟨g6, 0, none⟩) (.inr rfl) _
        have hne7 : (Value.slice a7 SB.length c7).ownBlock ≠ some g6 := HN7.out
        have HY8 : Hid (Yb w X g6 (.slice a7 SB.length c7) SB (w7.setCell ⟨g6, 0, none⟩ (.slice a7 SB.length c7))) := by
          have hb8 := hb7.rd.upd hus (fun k hk e => hne7 (by rw [hk, e]))
          exact ⟨(show Xb w X w7 from ⟨h7.nw, h7.bx⟩).upd hus (fun k hk => by omega), h7.b6.put, hb8⟩
        have HB8 := hid (hb7.upd hus (fun k hk e => hne7 (by rw [hk, e])))
        clear hus hne7 h7 hb7
        go_wp2_with fail
        go_roundg (2 - (k + 1))
        case measure => omega
        case rel => exact ⟨k + 1, 0, SB, a7, c7, rfl, by go_num, by omega, HSB.out, HY8.out, HB8.out⟩
    · have e : k = 2 := by omega
      subst e
      have HY := hid hy
      clear hk hy hb7
      go_wp2_with fail
      refine (HAW.out _).mono ?_
      rintro e w' ⟨rfl, hn⟩
      have HN := hid (New.trans HY.out.xb.1 hn)
      clear hn
      go_wp2_with fail
      go_ret
      exact ⟨rfl, HN.out⟩
end Go.Proofs.Ytjagimlmclejeaa
