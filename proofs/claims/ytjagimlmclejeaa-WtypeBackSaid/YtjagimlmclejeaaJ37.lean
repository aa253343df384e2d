/-
  WtypeBack: types that were put are read as they were, in memory.
-/
import Derived.Test.YtjagimlmclejeaaJ29
import Derived.Test.YtjagimlmclejeaaJ32
import Derived.Test.YtjagimlmclejeaaJ36
namespace Go.Proofs.Ytjagimlmclejeaa
open Go.RowKit Go.Proofs.Leb Go.Proofs.Own Go.Proofs.Cur
set_option maxRecDepth 100000
set_option maxHeartbeats 4000000

/-- the bytes of a function, a global and a table, one behind the other -/
def allB (x : TyM) (m : Nat) : List UInt8 := fnB (lb x.p) (lb x.r) m ++ ([x.gt, bitB x.gm] ++ tbB x.e x.th x.tn x.tx m)
structure TyOk (x : TyM) : Prop where
  wf : TyWf x
  p : x.p.size ≤ 300
  r : x.r.size ≤ 300
  vp : valsV (lb x.p) = true
  vr : valsV (lb x.r) = true
  e : refV x.e.toNat = true
  gt : valV x.gt.toNat = true
  tx : x.th = false → x.tx = 0
theorem allB_len {x : TyM} (h : TyOk x) (m : Nat) : (allB x m).length ≤ 1000 ∧ (fnB (lb x.p) (lb x.r) m).length ≤ 700 ∧ 3 ≤ (tbB x.e x.th x.tn x.tx m).length ∧ (tbB x.e x.th x.tn x.tx m).length ≤ 12 := by
  have l1 := lb_len x.p
  have l2 := lb_len x.r
  have s1 := h.p
  have s2 := h.r
  have n1 := numV_len (v := (lb x.p).length) (by omega) m
  have n2 := numV_len (v := (lb x.r).length) (by omega) m
  have n3 := lmB_len (h := x.th) h.wf.tn h.wf.tx m
  have n4 := numV_len h.wf.tn m
  have e1 : (fnB (lb x.p) (lb x.r) m).length ≤ 700 := by unfold fnB; simp only [List.length_cons, List.length_append]; omega
  have e2 : 2 ≤ (lmB x.th x.tn x.tx m).length := by unfold lmB; simp only [List.length_cons, List.length_append]; omega
  have e3 : (tbB x.e x.th x.tn x.tx m).length = (lmB x.th x.tn x.tx m).length + 1 := rfl
  refine ⟨?_, e1, by omega, by omega⟩
  unfold allB
  simp only [List.length_cons, List.length_append, List.length_nil]
  omega
/-- what is read of them -/
theorem all_read {x : TyM} (h : TyOk x) (m : Nat) : ∃ F, funcO (allB x m) (allB x m).length (5, 14) 0 = .ok (lb x.p, lb x.r) F ∧ globO (allB x m) (allB x m).length F = .ok (x.gt, x.gm) (F + 2) ∧
    tableO (allB x m) (allB x m).length (0, 0) (F + 2) = .ok (x.e, x.th, x.tn, x.tx) (allB x m).length := by
  obtain ⟨k0, k1, k2, k3⟩ := allB_len h m
  obtain ⟨F, hF⟩ : ∃ F, (fnB (lb x.p) (lb x.r) m).length = F := ⟨_, rfl⟩
  obtain ⟨T, hT⟩ : ∃ T, (tbB x.e x.th x.tn x.tx m).length = T := ⟨_, rfl⟩
  have hlen : (allB x m).length = F + 2 + T := by unfold allB; simp only [List.length_cons, List.length_append, List.length_nil]; omega
  have hA : Here (allB x m) 0 (fnB (lb x.p) (lb x.r) m ++ ([x.gt, bitB x.gm] ++ tbB x.e x.th x.tn x.tx m)) := Here.all _
  have hB := hA.right
  rw [Nat.zero_add, hF] at hB
  have hC : Here (allB x m) (F + 2) (tbB x.e x.th x.tn x.tx m) := hB.right
  have f0 : Far ((allB x m).length : Int) 0 (allB x m).length := .inr (by omega)
  have r2 : rest ((allB x m).length : Int) (F + 2 + T) = 0 := by unfold rest; rw [if_neg (by omega), hlen]; omega
  have r1 : rest ((allB x m).length : Int) F = 2 + T := by unfold rest; rw [if_neg (by omega), hlen]; omega
  have l1 := lb_len x.p
  have l2 := lb_len x.r
  have s1 := h.p
  have s2 := h.r
  refine ⟨F, ?_, ?_, ?_⟩
  · have := funcO_here (bs := allB x m) (lim := (allB x m).length) (s := (5, 14)) (p := 0) (ps := lb x.p) (rs := lb x.r) ⟨by unfold Span.wide; decide, by decide⟩ (by decide) m (by omega) (by omega) h.vp h.vr hA.left (f0.less (by omega))
      (by rw [hF, Nat.zero_add, r1]; show Span.has _ _ _ = true; unfold Span.has; simp only [Bool.and_eq_true, Bool.or_eq_true, decide_eq_true_eq]; omega)
    rwa [hF, Nat.zero_add] at this
  · exact globO_here (b := tbB x.e x.th x.tn x.tx m) h.gt hB (by unfold Far; omega)
  · have := tableO_here (bs := allB x m) (lim := (allB x m).length) (s := (0, 0)) (p := F + 2) (e := x.e) (h := x.th) (mn := x.tn) (mx := x.tx) ⟨by unfold Span.wide; decide, by decide⟩ (by decide) m h.e h.wf.tn h.wf.tx h.tx hC (by rw [hT]; unfold Far; omega)
      (by rw [hT, r2]; show Span.has _ _ _ = true; decide)
    rw [hT, ← hlen] at this
    exact this

/-- what was read, in three cells -/
def Bk (g9 g10 g11 : Nat) (x : TyM) (lo : Nat) (W : World) : Prop := ∃ a1 c1 a2 c2, W.heap[g9]? = some (.cells #[.slice a1 (lb x.p).length c1, .slice a2 (lb x.r).length c2] 35) ∧ VBytes W (.slice a1 (lb x.p).length c1) (lb x.p) ∧ VBytes W (.slice a2 (lb x.r).length c2) (lb x.r) ∧
  (∀ k, (Value.slice a1 (lb x.p).length c1).ownBlock = some k → lo ≤ k) ∧ (∀ k, (Value.slice a2 (lb x.r).length c2).ownBlock = some k → lo ≤ k) ∧
  W.heap[g10]? = some (.cells #[.int .u8 x.gt.toNat, .bool x.gm] 44) ∧ W.heap[g11]? = some (.cells #[.int .u8 x.e.toNat, .bool x.th, .int .u32 (x.tn : Nat), .int .u32 (x.tx : Nat)] 41)
theorem blk_upd {S : Nat → Prop} {a b : World} {g : Nat} {o : Obj} (h : a.heap[g]? = some o) (hu : Upd S a b) (hn : ¬ S g) : b.heap[g]? = some o := (hu.block g (Array.getElem?_eq_some_iff.1 h).1 hn).trans h
theorem Bk.upd {g9 g10 g11 : Nat} {x : TyM} {lo : Nat} {S : Nat → Prop} {a b : World} (h : Bk g9 g10 g11 x lo a) (hu : Upd S a b) (n9 : ¬ S g9) (n10 : ¬ S g10) (n11 : ¬ S g11) (hl : ∀ k, lo ≤ k → ¬ S k) : Bk g9 g10 g11 x lo b := by
  obtain ⟨a1, c1, a2, c2, h1, h2, h3, h4, h5, h6, h7⟩ := h
  exact ⟨a1, c1, a2, c2, blk_upd h1 hu n9, h2.upd hu (fun k hk => hl k (h4 k hk)), h3.upd hu (fun k hk => hl k (h5 k hk)), h4, h5, blk_upd h6 hu n10, blk_upd h7 hu n11⟩

theorem bk11_any {x : TyM} (hx : TyOk x) (m : Nat) (C Bc g9 g10 g11 lo : Nat) (v : Value) (o9 o10 o11 : Array Value) (w : World) (hc : One1 w Bc (.pointer (some ⟨C, 0, none⟩))) (h9 : w.heap[g9]? = some (.cells o9 35)) (h10 : w.heap[g10]? = some (.cells o10 44)) (h11 : w.heap[g11]? = some (.cells o11 41))
    (s9 : o9.size = 2) (s10 : o10.size = 2) (s11 : o11.size = 4) (h : Cur w C v (allB x m) 0 (allB x m).length 0) (hlo : lo ≤ w.heap.size) (n0 : Bc ≠ C) (n9 : g9 ≠ C) (n10 : g10 ≠ C) (n11 : g11 ≠ C) (d0 : Bc ≠ g9) (d1 : Bc ≠ g10) (hv9 : v.ownBlock ≠ some g9) (hv10 : v.ownBlock ≠ some g10) (hv11 : v.ownBlock ≠ some g11) :
    Calls Try.prog 33 #[.pointer (some ⟨Bc, 0, none⟩), .pointer (some ⟨g9, 0, none⟩), .pointer (some ⟨g10, 0, none⟩), .pointer (some ⟨g11, 0, none⟩)] w
      (fun e w2 => Upd (fun k => k = C ∨ (k = g9 ∨ k = g10 ∨ k = g11)) w w2 ∧ Did C v (allB x m) (allB x m).length (.ok () (allB x m).length) w2 e ∧ Bk g9 g10 g11 x lo w2) := by
  obtain ⟨k0, -, -, -⟩ := allB_len hx m
  obtain ⟨F, hF, hG, hT⟩ := all_read hx m
  have hbs := h.lt
  have d910 : g9 ≠ g10 := ty_neq h9 h10 (by decide)
  have d911 : g9 ≠ g11 := ty_neq h9 h11 (by decide)
  have d1011 : g10 ≠ g11 := ty_neq h10 h11 (by decide)
  have hi0 : Inv (allB x m).length (allB x m).length 0 := ⟨Nat.zero_le _, by omega, .inr (by omega)⟩
  generalize allB x m = bs at *
  have hRF := readFunc_any h hi0 (5, 14) ⟨by unfold Span.wide; decide, by decide⟩ (by decide)
  rw [hF] at hRF
  have HRF := hid hRF
  have hiF : Inv bs.length bs.length F := by have := (globO_inv hG); exact ⟨by omega, by omega, .inr (by omega)⟩
  have hiT : Inv bs.length bs.length (F + 2) := by have := (globO_inv hG); exact ⟨by omega, by omega, .inr (by omega)⟩
  have HG := hid hG
  have HT := hid hT
  have HC := hid hc
  have HIF := hid hiF
  have HIT := hid hiT
  have H9 := hid h9
  have H10 := hid h10
  have H11 := hid h11
  have H0 := hid h
  have z0 := hc.c
  clear hRF hF hG hT hc hiF hiT h9 h10 h11 h hi0
  go_enter Try.func33, Try.ntmps33
  go_wp2_with fail
  refine HRF.out.mono ?_
  rintro e w1 ⟨hu1, hm1⟩
  obtain ⟨u, rfl, ⟨u1, u2, rfl, hr1, hf1, hr2, hf2⟩, hc1⟩ := hm1
  obtain ⟨a1, c1, rfl⟩ := hr1.rd.shape
  obtain ⟨a2, c2, rfl⟩ := hr2.rd.shape
  have H91 := hid (blk_upd H9.out hu1 n9)
  have H101 := hid (blk_upd H10.out hu1 n10)
  have H111 := hid (blk_upd H11.out hu1 n11)
  have HC1 := hid (HC.out.upd hu1 n0)
  have U1 := hid hu1
  have CU1 := hid hc1
  have R1 := hid hr1
  have R2 := hid hr2
  have F1 := hid hf1
  have F2 := hid hf2
  clear hu1 hc1 hr1 hr2 hf1 hf2 z0
  obtain ⟨hus, hbs2⟩ := run_setRowT (cs := #[.slice a1 (lb x.p).length c1, .slice a2 (lb x.r).length c2]) H91.out
  have z0 := (HC1.out.upd hus d0).c
  go_wp2_with (refine wpList_store_row rfl 35 _ _ rfl g9 #[.slice a1 (lb x.p).length c1, .slice a2 (lb x.r).length c2] rfl rfl 35 _ H91.out infoFn2 s9 (by simp [Value.oneCell']) ?_)
  generalize w1.setRow g9 #[.slice a1 (lb x.p).length c1, .slice a2 (lb x.r).length c2] = w2 at *
  have low9 : Hid (∀ k, w.heap.size ≤ k → k ≠ g9) := fun k hk e => by have := (Array.getElem?_eq_some_iff.1 H9.out).1; omega
  have low10 : Hid (∀ k, w.heap.size ≤ k → k ≠ g10) := fun k hk e => by have := (Array.getElem?_eq_some_iff.1 H10.out).1; omega
  have low11 : Hid (∀ k, w.heap.size ≤ k → k ≠ g11) := fun k hk e => by have := (Array.getElem?_eq_some_iff.1 H11.out).1; omega
  have H92 := hid hbs2
  have H102 := hid (blk_upd H101.out hus (Ne.symm d910))
  have H112 := hid (blk_upd H111.out hus (Ne.symm d911))
  have HC2 := hid (HC1.out.upd hus d0)
  have R12 := hid (R1.out.upd hus (fun k hk => low9.out k (F1.out k hk)))
  have R22 := hid (R2.out.upd hus (fun k hk => low9.out k (F2.out k hk)))
  have CU2 := hid (CU1.out.upd hus (Ne.symm n9) (fun hb k hk e => hv9 (by rw [← e]; exact hk)))
  have U2 := hid ((U1.out.mono (T := fun k => k = C ∨ (k = g9 ∨ k = g10 ∨ k = g11)) (fun k _ h => .inl h)).trans hus (fun k _ h => .inr (.inl h)))
  have HRG := hid (readGlobal_any CU2.out HIF.out)
  rw [HG.out] at HRG
  clear hus hbs2 low9 z0
  refine HRG.out.mono ?_
  rintro e w3 ⟨hu3, rfl, hc3⟩
  have H93 := hid (blk_upd H92.out hu3 n9)
  have H103 := hid (blk_upd H102.out hu3 n10)
  have H113 := hid (blk_upd H112.out hu3 n11)
  have HC3 := hid (HC2.out.upd hu3 n0)
  have R13 := hid (R12.out.upd hu3 (fun k hk e => by have := F1.out k hk; omega))
  have R23 := hid (R22.out.upd hu3 (fun k hk e => by have := F2.out k hk; omega))
  have U3 := hid (U2.out.trans hu3 (fun k _ h => .inl h))
  have CU3 := hid hc3
  clear hu3 hc3
  unfold GlobV
  simp only
  obtain ⟨hus, hbs2⟩ := run_setRowT (cs := #[.int .u8 x.gt.toNat, .bool x.gm]) H103.out
  have z0 := (HC3.out.upd hus d1).c
  go_wp2_with (refine wpList_store_row rfl 44 _ _ rfl g10 #[.int .u8 x.gt.toNat, .bool x.gm] rfl rfl 44 _ H103.out infoGt2 s10 (by simp [Value.oneCell']) ?_)
  generalize w3.setRow g10 #[.int .u8 x.gt.toNat, .bool x.gm] = w4 at *
  have H94 := hid (blk_upd H93.out hus d910)
  have H104 := hid hbs2
  have H114 := hid (blk_upd H113.out hus (Ne.symm d1011))
  have HC4 := hid (HC3.out.upd hus d1)
  have R14 := hid (R13.out.upd hus (fun k hk => low10.out k (F1.out k hk)))
  have R24 := hid (R23.out.upd hus (fun k hk => low10.out k (F2.out k hk)))
  have CU4 := hid (CU3.out.upd hus (Ne.symm n10) (fun hb k hk e => hv10 (by rw [← e]; exact hk)))
  have U4 := hid (U3.out.trans hus (fun k _ h => .inr (.inr (.inl h))))
  have HRT := hid (readTable_any CU4.out HIT.out (0, 0) (by decide) (by decide) (by decide))
  rw [HT.out] at HRT
  clear hus hbs2 low10 z0
  refine HRT.out.mono ?_
  rintro e w5 ⟨hu5, rfl, hc5⟩
  have H95 := hid (blk_upd H94.out hu5 n9)
  have H105 := hid (blk_upd H104.out hu5 n10)
  have H115 := hid (blk_upd H114.out hu5 n11)
  have R15 := hid (R14.out.upd hu5 (fun k hk e => by have := F1.out k hk; omega))
  have R25 := hid (R24.out.upd hu5 (fun k hk e => by have := F2.out k hk; omega))
  have U5 := hid (U4.out.trans hu5 (fun k _ h => .inl h))
  have CU5 := hid hc5
  clear hu5 hc5
  unfold TabV
  simp only
  go_wp2_with (refine wpList_store_row rfl 41 _ _ rfl g11 #[.int .u8 x.e.toNat, .bool x.th, .int .u32 (x.tn : Nat), .int .u32 (x.tx : Nat)] rfl rfl 41 _ H115.out infoTb4 s11 (by simp [Value.oneCell']) ?_)
  obtain ⟨hus, hbs2⟩ := run_setRowT (cs := #[.int .u8 x.e.toNat, .bool x.th, .int .u32 (x.tn : Nat), .int .u32 (x.tx : Nat)]) H115.out
  generalize w5.setRow g11 #[.int .u8 x.e.toNat, .bool x.th, .int .u32 (x.tn : Nat), .int .u32 (x.tx : Nat)] = w6 at *
  have H96 := hid (blk_upd H95.out hus d911)
  have H106 := hid (blk_upd H105.out hus d1011)
  have H116 := hid hbs2
  have R16 := hid (R15.out.upd hus (fun k hk => low11.out k (F1.out k hk)))
  have R26 := hid (R25.out.upd hus (fun k hk => low11.out k (F2.out k hk)))
  have CU6 := hid (CU5.out.upd hus (Ne.symm n11) (fun hb k hk e => hv11 (by rw [← e]; exact hk)))
  have U6 := hid (U5.out.trans hus (fun k _ h => .inr (.inr (.inr h))))
  clear hus hbs2 low11
  go_wp2_with fail
  go_end0
  exact ⟨U6.out, ⟨rfl, CU6.out⟩, ⟨a1, c1, a2, c2, H96.out, R16.out, R26.out, (fun k hk => Nat.le_trans hlo (F1.out k hk)), (fun k hk => Nat.le_trans hlo (F2.out k hk)), H106.out, H116.out⟩⟩
end Go.Proofs.Ytjagimlmclejeaa

namespace Go.Proofs.Ytjagimlmclejeaa
open Go.RowKit Go.Proofs.Leb Go.Proofs.Own Go.Proofs.Cur
set_option maxRecDepth 100000
set_option maxHeartbeats 4000000

def G3 (g9 g10 g11 k : Nat) : Prop := k = g9 ∨ k = g10 ∨ k = g11
theorem bk1_any {x : TyM} (hx : TyOk x) (m : Nat) (C g6 g9 g10 g11 lo : Nat) (v : Value) (a : Option Addr) (cap : Nat) (o9 o10 o11 : Array Value) (w : World) (h6 : One1 w g6 (.slice a (allB x m).length cap)) (h9 : w.heap[g9]? = some (.cells o9 35)) (h10 : w.heap[g10]? = some (.cells o10 44)) (h11 : w.heap[g11]? = some (.cells o11 41))
    (s9 : o9.size = 2) (s10 : o10.size = 2) (s11 : o11.size = 4) (h : Cur w C v (allB x m) 0 (-1) 0) (hlo : lo ≤ w.heap.size) (n9 : g9 ≠ C) (n10 : g10 ≠ C) (n11 : g11 ≠ C) (hv9 : v.ownBlock ≠ some g9) (hv10 : v.ownBlock ≠ some g10) (hv11 : v.ownBlock ≠ some g11) (hCl : ∀ k, lo ≤ k → k ≠ C) :
    Calls Try.prog 31 #[.pointer (some ⟨C, 0, none⟩), .pointer (some ⟨g6, 0, none⟩), .pointer (some ⟨g9, 0, none⟩), .pointer (some ⟨g10, 0, none⟩), .pointer (some ⟨g11, 0, none⟩)] w
      (fun e w2 => Upd (fun k => k = C ∨ G3 g9 g10 g11 k) w w2 ∧ Did C v (allB x m) (-1) (.ok () (allB x m).length) w2 e ∧ Bk g9 g10 g11 x lo w2) := by
  obtain ⟨k0, -, -, -⟩ := allB_len hx m
  have HB := fun (Bc : Nat) (w1 : World) => bk11_any hx m C Bc g9 g10 g11 lo v o9 o10 o11 w1
  generalize allB x m = bs at *
  have hC := h.lt
  have l9 := (Array.getElem?_eq_some_iff.1 h9).1
  have l10 := (Array.getElem?_eq_some_iff.1 h10).1
  have l11 := (Array.getElem?_eq_some_iff.1 h11).1
  have hn : New w (w.alloc (.cells #[.pointer (some ⟨C, 0, none⟩)] 62)) := (Upd.refl _ _).alloc _
  have hl : limO bs.length (-1) 0 = bs.length := by unfold limO rest; rw [if_pos rfl]; omega
  have kc : One1 (w.alloc (.cells #[.pointer (some ⟨C, 0, none⟩)] 62)) w.heap.size (.pointer (some ⟨C, 0, none⟩)) := One1.mk rfl
  have hi0 : Inv bs.length (-1) 0 := ⟨Nat.zero_le _, by omega, .inl rfl⟩
  have HWI := hid (Within_any (h.new hn) hi0 bs.length (by omega) (by omega) 33 #[.pointer (some ⟨w.heap.size, 0, none⟩), .pointer (some ⟨g9, 0, none⟩), .pointer (some ⟨g10, 0, none⟩), .pointer (some ⟨g11, 0, none⟩)] (fun _ _ => rfl)
    (G3 g9 g10 g11) (fun k hk => by have := hn.size; unfold G3 at hk; omega) (.ok () bs.length) (Bk g9 g10 g11 x lo) (fun a b hu ha => ha.upd hu n9 n10 n11 hCl) (fun q hq => by rw [hl]; cases hq; exact ⟨Nat.le_refl _, by omega, .inr (by omega)⟩)
    (fun w1 hu hc => by
      rw [hl] at hc ⊢
      exact HB w.heap.size w1 (kc.upd hu (by omega)) (blk_upd (hp1 h9 hn) hu n9) (blk_upd (hp1 h10 hn) hu n10) (blk_upd (hp1 h11 hn) hu n11) s9 s10 s11 hc (Nat.le_trans hlo (Nat.le_trans hn.size hu.size)) (by omega) n9 n10 n11 (by omega) (by omega) hv9 hv10 hv11))
  have hw3 : withinO bs.length (.ok () bs.length) = .ok () bs.length := by
    show (if rest bs.length bs.length = 0 then Out.ok () bs.length else Out.up bs.length 2) = _
    rw [if_pos (by unfold rest; rw [if_neg (by omega)]; omega)]
  rw [hl, hw3] at HWI
  have hmf : ∀ (fn : Fn) (first cap : Array Value) (w : World), (Instr.makeFunc fn first cap).run Try.prog w = .ok (.func fn first cap) w := fun _ _ _ _ => rfl
  have z0 := kc.c
  have z6 := (h6.new hn).c
  have HN := hid hn
  clear HB h hn kc h9 h10 h11 hl hw3 h6 hi0
  go_enter Try.func31, Try.ntmps31
  go_wp2_with fail
  refine HWI.out.mono ?_
  rintro e w1 ⟨hu1, hd1, k1⟩
  have HD := hid hd1
  have U1 := hid ((New.upd HN.out).trans hu1 (fun _ _ h => h))
  have K1 := hid k1
  obtain ⟨rfl, -⟩ := hd1
  clear hu1 k1
  go_wp2_with fail
  go_end0
  exact ⟨U1.out, HD.out, K1.out⟩
theorem bkTry_any {x : TyM} (hx : TyOk x) (m : Nat) (g6 g9 g10 g11 : Nat) (a : Option Addr) (cap : Nat) (o9 o10 o11 : Array Value) (w : World) (h6 : One1 w g6 (.slice a (allB x m).length cap)) (hr : Rd w (.slice a (allB x m).length cap) (allB x m)) (h9 : w.heap[g9]? = some (.cells o9 35)) (h10 : w.heap[g10]? = some (.cells o10 44)) (h11 : w.heap[g11]? = some (.cells o11 41))
    (s9 : o9.size = 2) (s10 : o10.size = 2) (s11 : o11.size = 4) (hv9 : (Value.slice a (allB x m).length cap).ownBlock ≠ some g9) (hv10 : (Value.slice a (allB x m).length cap).ownBlock ≠ some g10) (hv11 : (Value.slice a (allB x m).length cap).ownBlock ≠ some g11) :
    Calls Try.prog 30 #[.slice a (allB x m).length cap, .func (.func 31) #[] #[.pointer (some ⟨g6, 0, none⟩), .pointer (some ⟨g9, 0, none⟩), .pointer (some ⟨g10, 0, none⟩), .pointer (some ⟨g11, 0, none⟩)]] w
      fun e w' => e = .returned (.tuple #[.int .i64 (allB x m).length, .int .i64 0]) ∧ Upd (G3 g9 g10 g11) w w' ∧ Bk g9 g10 g11 x (w.heap.size + 4) w' := by
  obtain ⟨k0, -, -, -⟩ := allB_len hx m
  have HB := fun (C lo : Nat) (w1 : World) => bk1_any hx m C g6 g9 g10 g11 lo (.slice a (allB x m).length cap) a cap o9 o10 o11 w1
  generalize allB x m = bs at *
  have l6 := h6.lt
  have l9 := (Array.getElem?_eq_some_iff.1 h9).1
  have l10 := (Array.getElem?_eq_some_iff.1 h10).1
  have l11 := (Array.getElem?_eq_some_iff.1 h11).1
  refine (Try_any (.slice a bs.length cap) bs w hr (by omega) 31 #[.pointer (some ⟨g6, 0, none⟩), .pointer (some ⟨g9, 0, none⟩), .pointer (some ⟨g10, 0, none⟩), .pointer (some ⟨g11, 0, none⟩)] (fun _ _ => rfl)
    (G3 g9 g10 g11) (fun k hk => by unfold G3 at hk; omega) (fun _ k hk e => by
      rcases e with e | e | e
      · exact hv9 (by rw [hk, e])
      · exact hv10 (by rw [hk, e])
      · exact hv11 (by rw [hk, e])) (.ok () bs.length) (Bk g9 g10 g11 x (w.heap.size + 4))
    (fun a b hu ha => ha.upd hu (by omega) (by omega) (by omega) (fun k hk h => by omega))
    (fun w1 hw1 hs hc => HB (w.heap.size + 1 + 1) (w.heap.size + 4) w1 (h6.new hw1) (hp1 h9 hw1) (hp1 h10 hw1) (hp1 h11 hw1) s9 s10 s11 hc (by omega) (by omega) (by omega) (by omega) hv9 hv10 hv11 (fun k hk => by omega))).mono ?_
  rintro e w' ⟨rfl, hu, hk⟩
  exact ⟨rfl, hu, hk⟩
end Go.Proofs.Ytjagimlmclejeaa
