/-
  InstrPuts, walked.
-/
import Derived.Test.YtnngibflnnmioaaAwi
import Derived.Test.YtnngibflnnmioaaRrt
import Derived.Test.YtnngibflnnmioaaInr
import Derived.Test.YtnngibflnnmioaaGrt
namespace Go.Proofs.Ytnngibflnnmioaa
open Go.RowKit Go.Proofs.Leb Go.Proofs.Own
set_option maxRecDepth 100000
set_option maxHeartbeats 8000000

theorem run_load_row {P : Program} {o : Oper} {a : Act} {w : World} {ty : TypeId} {x : Operand} {g : Nat} {t : TypeId} {cs : Array Value} {d : TypeDesc} (ho : o.op = .load ty x)
    (hx : a.eval x = .pointer (some ⟨g, 0, none⟩)) (hg : w.heap[g]? = some (.cells cs t))
    (hu : P.underlying ty = some d) (hd : (match d with | .struct _ | .array _ _ => true | _ => false) = true) (hi : (P.info? ty).map (·.size) = some cs.size) :
    (execOp a.eval o).run P w = .ok (.value (.agg cs)) w := by
  unfold execOp
  simp only [ho, hx, Instr.loadAt, Instr.sureAddr, Sem.run_bind, Sem.run_pure, Result.andThen_ok, run_loadVar_row w g t ty cs (0, 0) d hg hu hd hi]
theorem infoRI : (Try.prog.info? 25).map (·.size) = some 12 := by kernel_rfl
theorem BoxR.cs {w : World} {g : Nat} {m : Ins} {l : Value} (h : BoxR w g m l) : w.cell? ⟨g, 0, none⟩ = some (.int .u8 m.p) ∧ w.cell? ⟨g, 1, none⟩ = some (.int .u32 m.c) ∧ w.cell? ⟨g, 2, none⟩ = some (.int .i64 m.k) ∧ w.cell? ⟨g, 3, none⟩ = some (.int .u8 m.t) ∧
    w.cell? ⟨g, 4, none⟩ = some (.int .u32 m.i) ∧ w.cell? ⟨g, 5, none⟩ = some (.int .u32 m.x) ∧ w.cell? ⟨g, 6, none⟩ = some (.int .u32 m.y) ∧ w.cell? ⟨g, 7, none⟩ = some l ∧ w.cell? ⟨g, 8, none⟩ = some (.int .i64 m.n) ∧ w.cell? ⟨g, 9, none⟩ = some (.string m.raw) ∧
    w.cell? ⟨g, 10, none⟩ = some (.int .u8 m.lane) ∧ w.cell? ⟨g, 11, none⟩ = some (.string m.ty) :=
  ⟨cellAt h 0 rfl, cellAt h 1 rfl, cellAt h 2 rfl, cellAt h 3 rfl, cellAt h 4 rfl, cellAt h 5 rfl, cellAt h 6 rfl, cellAt h 7 rfl, cellAt h 8 rfl, cellAt h 9 rfl, cellAt h 10 rfl, cellAt h 11 rfl⟩
theorem nineMade (w : World) : Bytes (w.alloc (.cells #[.int .u8 9] 5)) (.slice (some ⟨w.heap.size, 0, none⟩) 1 1) [9] :=
  ⟨rfl, .inr ⟨w.heap.size, 1, #[.int .u8 9], rfl, Nat.zero_le _, hp_new rfl, by decide, by decide, rfl, rfl⟩⟩
theorem nineStep {K : Act → World → Prop} {a : Act} {W : World} (h : ∀ W2, New W W2 → Bytes W2 (.slice (some ⟨W.heap.size, 0, none⟩) 1 1) [9] → Fresh W (.slice (some ⟨W.heap.size, 0, none⟩) 1 1) → K a W2) : K a (W.alloc (.cells #[.int .u8 9] 5)) :=
  h _ ((Upd.refl _ _).alloc _) (nineMade W) (fun k hk => by cases hk; exact Nat.le_refl _)
theorem bool_of (q : Prop) : ∃ b : Bool, (b = true ↔ q) := by
  by_cases h : q
  · exact ⟨true, by simp [h]⟩
  · exact ⟨false, by simp [h]⟩
theorem opBytes_len (p c : Nat) (hc : c < 4294967296) : (opBytes p c).length ≤ 6 := by
  unfold opBytes
  have := encU_five (v := c) hc
  split
  · simp
  · simp; omega
theorem ite_le {c : Prop} [Decidable c] {a b n : Nat} (h1 : a ≤ n) (h2 : b ≤ n) : (if c then a else b) ≤ n := by split <;> assumption
theorem putB_len {s : Int} {p c t i x y lane : Nat} {k n : Int} {li : List Nat} {raw ty : ByteArray} (hi : i < 4294967296) (hx : x < 4294967296) (hy : y < 4294967296) (hli : ∀ z ∈ li, z < 4294967296) (s1 : li.length ≤ 1000) (s2 : raw.size ≤ 1000) (s3 : ty.size ≤ 1000)
    (n1 : -9223372036854775808 ≤ n) (n2 : n ≤ 9223372036854775807) : (putB s ⟨p, c, k, t, i, x, y, li, n, raw, lane, ty⟩).length ≤ 10000 := by
  have a1 := encU_five hx
  have a2 := encU_five hy
  have a3 := flat_len li hli s1
  have a4 := encU_five (v := li.length) (by omega)
  have a5 := encU_five (v := ty.size) (by omega)
  have a6 := encS_len_le 10 n (by decide) (by omega) (by omega)
  have a7 := encS_len_le 5 i (by decide) (by omega) (by omega)
  have a8 := lb_len raw
  have a9 := lb_len ty
  unfold putB btB
  simp only [Int.toNat_natCast, apply_ite List.length, List.length_append, List.length_cons, List.length_nil]
  repeat' (first | omega | refine ite_le ?_ ?_)
theorem boxStep {K : Act → World → Prop} {a : Act} {W : World} {o : Obj} (h : ∀ W2, New W W2 → W2.heap[W.heap.size]? = some o → K a W2) : K a (W.alloc o) :=
  h _ ((Upd.refl _ _).alloc _) (hp_new rfl)
/-- an instruction's memory, on the program's side -/
def LU (li : List Nat) (ty : ByteArray) (l' u' : Value) (w' : World) : Prop :=
  RdM .u32 w' l' li ∧ Rd w' u' (lb ty) ∧ (∀ k, l'.ownBlock = some k → k < w'.heap.size) ∧ (∀ k, u'.ownBlock = some k → k < w'.heap.size)
theorem LU.upd {S : Nat → Prop} {li : List Nat} {ty : ByteArray} {l' u' : Value} {a b : World} (h : LU li ty l' u' a) (k : Upd S a b) (h1 : ∀ i, l'.ownBlock = some i → ¬ S i) (h2 : ∀ i, u'.ownBlock = some i → ¬ S i) : LU li ty l' u' b :=
  ⟨h.1.upd k h1, h.2.1.upd k h2, fun i hi => Nat.lt_of_lt_of_le (h.2.2.1 i hi) k.size, fun i hi => Nat.lt_of_lt_of_le (h.2.2.2 i hi) k.size⟩
theorem LU.new {li : List Nat} {ty : ByteArray} {l' u' : Value} {a b : World} (h : LU li ty l' u' a) (k : New a b) : LU li ty l' u' b := h.upd k (fun _ _ h => h) (fun _ _ h => h)
def Ap2 (l' u' : Value) (g : Nat) : Prop := l'.ownBlock ≠ some g ∧ u'.ownBlock ≠ some g
theorem Ap2.fresh {w : World} {g : Nat} {o : Obj} {l' u' : Value} (hz : w.heap[g]? = some o) (h1 : Fresh w l') (h2 : Fresh w u') : Ap2 l' u' g :=
  ⟨fun e => absurd (Array.getElem?_eq_some_iff.1 hz).1 (by have := h1 _ e; omega), fun e => absurd (Array.getElem?_eq_some_iff.1 hz).1 (by have := h2 _ e; omega)⟩
theorem LU.ap {w : World} {li : List Nat} {ty : ByteArray} {l' u' : Value} (h : LU li ty l' u' w) : Ap2 l' u' w.heap.size :=
  ⟨fun e => absurd (h.2.2.1 _ e) (Nat.lt_irrefl _), fun e => absurd (h.2.2.2 _ e) (Nat.lt_irrefl _)⟩
/-- the two boxed instructions, in a world that lies behind -/
def TwoR (w2 : World) (g : Nat) (m o : Ins) (l lo : Value) (w' : World) : Prop := New w2 w' ∧ BoxR w' g m l ∧ BoxR w' (g + 1) o lo
theorem TwoR.new {w2 : World} {g : Nat} {m o : Ins} {l lo : Value} {a b : World} (h : TwoR w2 g m o l lo a) (k : New a b) : TwoR w2 g m o l lo b := ⟨New.trans h.1 k, hp1 h.2.1 k, hp1 h.2.2 k⟩
/-- and the program's own -/
def OwnR (w2 : World) (g g5 : Nat) (m o : Ins) (l lo l' u' : Value) (w' : World) : Prop :=
  TwoR w2 g m o l lo w' ∧ Box w' g5 m l' u' ∧ LU m.li m.ty l' u' w'
theorem OwnR.new {w2 : World} {g g5 : Nat} {m o : Ins} {l lo l' u' : Value} {a b : World} (h : OwnR w2 g g5 m o l lo l' u' a) (k : New a b) : OwnR w2 g g5 m o l lo l' u' b :=
  ⟨h.1.new k, hp1 h.2.1 k, h.2.2.new k⟩
theorem TwoR.set {w2 : World} {g g5 : Nat} {m o : Ins} {l lo : Value} {a b : World} (h : TwoR w2 g m o l lo a) (hu : Upd (fun k => k = g5) a b) (h2 : w2.heap.size ≤ g5) (hg : g + 1 < w2.heap.size) : TwoR w2 g m o l lo b :=
  have hs := h.1.size
  ⟨Upd.trans h.1 hu (fun i hi e => absurd hi (by omega)), (hu.block g (by omega) (by omega)).trans h.2.1, (hu.block (g + 1) (by omega) (by omega)).trans h.2.2⟩
theorem SameP.mk' {q : Prop} {b : Bool} (hb : b = true ↔ q) {w : World} {e : Ending} {w' : World} (h : SameP q w e w') : IsNew b w e w' := by
  obtain ⟨c, rfl, hc, hn⟩ := h
  have : c = b := by
    cases c <;> cases b <;> simp_all
  subst this
  exact ⟨rfl, hn⟩

theorem bt_of {m : Ins} (h : RightQ m) : (shapeV m.p m.c).1 = 1 → m.k = 0 ∨ m.k = 1 ∨ m.k = 2 := by
  intro hs
  have hb := h.2.1.1 hs
  unfold btV at hb
  split at hb
  · exact .inl (by assumption)
  · split at hb
    · exact .inr (.inl (by assumption))
    · simp only [decide_eq_true_eq] at hb
      exact .inr (.inr hb.1)
theorem raw_of {m : Ins} (h : RightQ m) : ¬ ((shapeV m.p m.c).1 = 11 ∨ (shapeV m.p m.c).1 = 12 ∨ (shapeV m.p m.c).1 = 13 ∨ (shapeV m.p m.c).1 = 14) → lb m.raw = [] := by
  intro hs
  have hz := congrArg Ins.raw h.2.2
  simp only [zap, zeroI] at hz
  rw [if_neg hs] at hz
  rw [hz]
  rfl
theorem instrPuts_walk (p c t i x y lane : Nat) (k n : Int) (li : List Nat) (raw ty : ByteArray) (o : Ins) (l lo : Value) (w : World) (hp : p < 256) (hc : c < 4294967296) (ht : t < 256) (hi : i < 4294967296) (hx : x < 4294967296) (hy : y < 4294967296)
    (hlane : lane < 256) (n1 : -9223372036854775808 ≤ n) (n2 : n ≤ 9223372036854775807) (hli : ∀ z ∈ li, z < 4294967296)
    (h1 : RdM .u32 w l li) (h2 : RdM .u32 w lo o.li) :
    Calls Try.prog 3 #[rI ⟨p, c, k, t, i, x, y, li, n, raw, lane, ty⟩ l, rI o lo] w (True' w) := by
  obtain ⟨M, hM⟩ : ∃ M : Ins, M = ⟨p, c, k, t, i, x, y, li, n, raw, lane, ty⟩ := ⟨_, rfl⟩
  obtain ⟨bG, hbG⟩ : ∃ b : Bool, (b = true ↔ GreatQ M) := bool_of _
  obtain ⟨bO, hbO⟩ : ∃ b : Bool, (b = true ↔ GreatQ o) := bool_of _
  obtain ⟨may, hmay⟩ : ∃ b : Bool, (b = true ↔ RightQ M) := bool_of _
  obtain ⟨bS, hbS⟩ : ∃ b : Bool, (b = true ↔ M = o) := bool_of _
  have e1 : M.li = li := by rw [hM]
  obtain ⟨al, cl, hl⟩ := h1.shape
  obtain ⟨ao, co, hlo⟩ := h2.shape
  have HG1 : Hid (∀ w, Calls Try.prog 5 #[rI M l] w (IsNew bG w)) := fun w => (great_any M l w ⟨al, cl, by rw [e1]; exact hl⟩).mono fun _ _ h => h.mk' hbG
  have HG2 : Hid (∀ w, Calls Try.prog 5 #[rI o lo] w (IsNew bO w)) := fun w => (great_any o lo w ⟨ao, co, hlo⟩).mono fun _ _ h => h.mk' hbO
  obtain ⟨w2, hw2⟩ : ∃ w2, (w.alloc (.cells (cellsR M l) 25)).alloc (.cells (cellsR o lo) 25) = w2 := ⟨_, rfl⟩
  have HN : Hid (New w w2) := by show New _ _; rw [← hw2]; exact ((Upd.refl _ _).alloc _).alloc _
  have HT : Hid (TwoR w2 w.heap.size M o l lo w2) := by
    show TwoR _ _ _ _ _ _ _
    rw [← hw2]
    exact ⟨Upd.refl _ _, hp_old (by simp) (hp_new rfl), hp_new (by simp)⟩
  have HG0 : Hid (w.heap.size + 1 < w2.heap.size) := by show _ < _; rw [← hw2]; simp
  have HR1 : Hid (RdM .u32 w2 l li) := h1.new HN.out
  have HR2 : Hid (RdM .u32 w2 lo o.li) := h2.new HN.out
  rw [hM] at hw2 HG1 HT
  have HM := hid hM
  have HL := hid hli
  obtain ⟨p', c', k', t', i', x', y', li', n', raw', lane', ty'⟩ := o
  unfold cellsR at hw2
  simp only at hw2 HG2 HT
  have HW := hid hw2
  clear hw2 h1 h2 hM hli e1
  subst hl hlo
  unfold rI
  simp only
  go_enter Try.func3, Try.ntmps3
  go_wp2_with fail
  rw [HW.out]
  clear HW
  refine (HG1.out w2).mono ?_
  rintro e w3 ⟨rfl, hn⟩
  have HT3 := hid (HT.out.new hn)
  clear hn HT HG1
  obtain ⟨z0, z1, z2, z3, z4, z5, z6, z7, z8, z9, z10, z11⟩ := BoxR.cs HT3.out.2.2
  simp only at z0 z1 z2 z3 z4 z5 z6 z7 z8 z9 z10 z11
  cases bG with
  | true =>
    go_wp2_with fail
    go_ret
    exact ⟨rfl, New.trans HN.out HT3.out.1⟩
  | false =>
  go_wp2_with fail
  clear z0 z1 z2 z3 z4 z5 z6 z7 z8 z9 z10 z11
  refine (HG2.out w3).mono ?_
  rintro e w4 ⟨rfl, hn⟩
  have HT4 := hid (HT3.out.new hn)
  clear hn HT3 HG2
  cases bO with
  | true =>
    go_wp2_with fail
    go_ret
    exact ⟨rfl, New.trans HN.out HT4.out.1⟩
  | false =>
  have s1 : li.length ≤ 100 ∧ raw.size ≤ 100 ∧ ty.size ≤ 100 := by
    have h : ¬ GreatQ M := fun h => by simpa using hbG.2 h
    rw [HM.out] at h
    unfold GreatQ at h
    simp only at h
    omega
  have s2 : li'.length ≤ 100 ∧ raw'.size ≤ 100 ∧ ty'.size ≤ 100 := by
    have h : ¬ GreatQ ⟨p', c', k', t', i', x', y', li', n', raw', lane', ty'⟩ := fun h => by simpa using hbO.2 h
    unfold GreatQ at h
    simp only at h
    omega
  have HOW1 : Hid (∀ w', RdM .u32 w' (.slice al li.length cl) li → Calls Try.prog 6 #[rI ⟨p, c, k, t, i, x, y, li, n, raw, lane, ty⟩ (.slice al li.length cl)] w' (OwnP ⟨p, c, k, t, i, x, y, li, n, raw, lane, ty⟩ w')) := fun w' h => own_any ⟨p, c, k, t, i, x, y, li, n, raw, lane, ty⟩ _ w' h (by simp only; omega) (by simp only; omega)
  have HOW2 : Hid (∀ w', RdM .u32 w' (.slice ao li'.length co) li' → Calls Try.prog 6 #[rI ⟨p', c', k', t', i', x', y', li', n', raw', lane', ty'⟩ (.slice ao li'.length co)] w' (OwnP ⟨p', c', k', t', i', x', y', li', n', raw', lane', ty'⟩ w')) := fun w' h => own_any ⟨p', c', k', t', i', x', y', li', n', raw', lane', ty'⟩ _ w' h (by simp only; omega) (by simp only; omega)
  have HRR : Hid (∀ w', RdM .u32 w' (.slice al li.length cl) li → Calls Try.prog 7 #[rI ⟨p, c, k, t, i, x, y, li, n, raw, lane, ty⟩ (.slice al li.length cl)] w' (IsNew may w')) := fun w' h =>
    (rRight_any ⟨p, c, k, t, i, x, y, li, n, raw, lane, ty⟩ _ w' (by simp only; omega) (by simp only; omega) h (by simp only; omega) (by simp only; omega) (by simp only; omega) (by simp only; omega) (by simp only; omega) (by simp only; omega) (by simp only; omega)).mono fun _ _ h => h.mk' (by rw [← HM.out]; exact hmay)
  have HPR : Hid (∀ l' u' w', LU li ty l' u' w' → Calls Try.prog 8 #[pI ⟨p, c, k, t, i, x, y, li, n, raw, lane, ty⟩ l' u'] w' (IsNew may w')) := fun l' u' w' h =>
    (pRight_any ⟨p, c, k, t, i, x, y, li, n, raw, lane, ty⟩ _ _ w' (by simp only; omega) (by simp only; omega) h.1 h.2.1 (by simp only; omega) (by simp only; omega) (by simp only; omega) (by simp only; omega) (by simp only; omega) (by simp only; omega) (by simp only; omega)).mono fun _ _ h => h.mk' (by rw [← HM.out]; exact hmay)
  have HPS : Hid (∀ l' u' l2 u2 w', LU li ty l' u' w' → LU li' ty' l2 u2 w' → Calls Try.prog 9 #[pI ⟨p, c, k, t, i, x, y, li, n, raw, lane, ty⟩ l' u', pI ⟨p', c', k', t', i', x', y', li', n', raw', lane', ty'⟩ l2 u2] w' (IsNew bS w')) := fun l' u' l2 u2 w' h hk =>
    (pSame_any ⟨p, c, k, t, i, x, y, li, n, raw, lane, ty⟩ ⟨p', c', k', t', i', x', y', li', n', raw', lane', ty'⟩ _ _ _ _ w' h.1 hk.1 h.2.1 hk.2.1 (by simp only; omega) (by simp only; omega) (by simp only; omega) (by simp only; omega)).mono fun _ _ h => h.mk' (by rw [← HM.out]; exact hbS)
  have HRS : Hid (∀ w', RdM .u32 w' (.slice al li.length cl) li → RdM .u32 w' (.slice ao li'.length co) li' → Calls Try.prog 10 #[rI ⟨p, c, k, t, i, x, y, li, n, raw, lane, ty⟩ (.slice al li.length cl), rI ⟨p', c', k', t', i', x', y', li', n', raw', lane', ty'⟩ (.slice ao li'.length co)] w' (IsNew bS w')) := fun w' h hk =>
    (rSame_any ⟨p, c, k, t, i, x, y, li, n, raw, lane, ty⟩ ⟨p', c', k', t', i', x', y', li', n', raw', lane', ty'⟩ _ _ w' h hk (by simp only; omega) (by simp only; omega)).mono fun _ _ h => h.mk' (by rw [← HM.out]; exact hbS)
  have HGG : Hid (w.heap.size + 1 < w2.heap.size) := HG0.out
  go_upto_region 3 with fail
  go_cut [5, 6] (fun a b wx => ∃ g5 l' u', a = .pointer (some ⟨g5, 0, none⟩) ∧ b = .bool may ∧ OwnR w2 w.heap.size g5 ⟨p, c, k, t, i, x, y, li, n, raw, lane, ty⟩ ⟨p', c', k', t', i', x', y', li', n', raw', lane', ty'⟩ (.slice al li.length cl) (.slice ao li'.length co) l' u' wx)
  case first =>
    have hn : TwoR w2 w.heap.size ⟨p, c, k, t, i, x, y, li, n, raw, lane, ty⟩ ⟨p', c', k', t', i', x', y', li', n', raw', lane', ty'⟩ (.slice al li.length cl) (.slice ao li'.length co) w4.drew := HT4.out.new (Upd.refl _ _).drew
    refine wp_region_noPanic ?_
    refine wp_region_held_drew (S := (TwoR w2 w.heap.size ⟨p, c, k, t, i, x, y, li, n, raw, lane, ty⟩ ⟨p', c', k', t', i', x', y', li', n', raw', lane', ty'⟩ (.slice al li.length cl) (.slice ao li'.length co))) (by kernel_rfl) (by first | exact hn | exact (Upd.refl _ _).drew | exact Upd.drew (by assumption)) (fun hn => ?_)
    generalize w4.drew = wd at *
    refine wpAnyH_take (i := 0) (oi := { dst := some 13, op := Op.load 25 (Operand.tmp 2), type := 25, pos := "law.go:43", after := #[], guard := none }) (v := ?v42x1) rfl (by kernel_rfl) (by kernel_rfl) (by kernel_rfl) (fun _ _ _ h => h) (Or.inl ⟨by rfl, ?y42x1⟩) hn ?r42x1
    case y42x1 => (intro wS hS; refine run_load_row (x := .tmp 2) ?_ ?_ hS.2.1 Try.underlying25 rfl infoRI; rfl; rfl; (try go_simp); (try with_reducible rfl))
    try simp only [Act.put, List.setIfInBounds_toArray, List.set_cons_zero, List.set_cons_succ]
    refine wpAnyH_take (i := 2) (oi := { dst := some 15, op := Op.load 25 (Operand.tmp 2), type := 25, pos := "law.go:43", after := #[], guard := none }) (v := ?v42x2) rfl (by kernel_rfl) (by kernel_rfl) (by kernel_rfl) (fun _ _ _ h => h) (Or.inl ⟨by rfl, ?y42x2⟩) hn ?r42x2
    case y42x2 => (intro wS hS; refine run_load_row (x := .tmp 2) ?_ ?_ hS.2.1 Try.underlying25 rfl infoRI; rfl; rfl; (try go_simp); (try with_reducible rfl))
    try simp only [Act.put, List.setIfInBounds_toArray, List.set_cons_zero, List.set_cons_succ]
    refine wpAnyH_ready (rs := [1, 4]) (by kernel_rfl) (by simp) ?_
    refine AllReadyH.cons (o := { dst := some 14, op := Op.call { callee := Callee.value (Operand.func 6), args := #[Operand.tmp 13], argTypes := #[25] }, type := 34, pos := "law.go:43", after := #[{ on := 0, ground := Ground.data }], guard := none }) rfl (fun K hK => ?_) ?_
    · skip
      go_simp
      refine (HOW1.out _ (HR1.out.new hn.1)).mono ?_
      rintro e wq ⟨l', u', rfl, hl', hu', hnq, hf1, hf2, ht1, ht2⟩
      obtain ⟨al', cl', rfl⟩ := hl'.shape
      obtain ⟨au', cu', rfl⟩ := hu'.shape
      go_wp2_with fail
      have hn := hn.new hnq
      have hlu : LU li ty (.slice al' li.length cl') (.slice au' (lb ty).length cu') wq := ⟨hl', hu', ht1, ht2⟩
      refine hK.out _ _ (by first | exact hn | exact Upd.alloc hn _) (fun hn => ?_)
      clear hK K
      try simp only [Act.put, List.setIfInBounds_toArray, List.set_cons_zero, List.set_cons_succ]
      refine wpAnyH_ready (rs := [3, 4]) (by kernel_rfl) (by simp) ?_
      refine AllReadyH.cons (o := { dst := some 16, op := Op.call { callee := Callee.value (Operand.func 7), args := #[Operand.tmp 15], argTypes := #[25] }, type := 4, pos := "law.go:43", after := #[{ on := 2, ground := Ground.data }, { on := 1, ground := Ground.chain }], guard := none }) rfl (fun K hK => ?_) ?_
      · skip
        go_simp
        refine (HRR.out _ (HR1.out.new hn.1)).mono ?_
        rintro e wr ⟨rfl, hnq⟩
        go_wp2_with fail
        have hn := hn.new hnq
        (try have hlu := hlu.new hnq)
        (try have hz := hp1 hz hnq)
        refine hK.out _ _ (by first | exact hn | exact Upd.alloc hn _) (fun hn => ?_)
        clear hK K
        try simp only [Act.put, List.setIfInBounds_toArray, List.set_cons_zero, List.set_cons_succ]
        refine wpAnyH_ready (rs := [4]) (by kernel_rfl) (by simp) ?_
        refine AllReadyH.cons (o := { dst := some 5, op := Op.alloc 34, type := 0, pos := "law.go:43", after := #[], guard := none }) rfl (fun K hK => ?_) AllReadyH.nil
        go_simp
        refine boxStep ?_
        intro ws hnq hz
        have hg5 := hn.1.size
        have hap := hlu.ap
        have hn := hn.new hnq
        have hlu := hlu.new hnq
        refine hK.out _ _ (by first | exact hn | exact Upd.alloc hn _) (fun hn => ?_)
        clear hK K
        try simp only [Act.put, List.setIfInBounds_toArray, List.set_cons_zero, List.set_cons_succ]
        refine wpAnyH_ready (rs := [5]) (by kernel_rfl) (by simp) ?_
        refine AllReadyH.cons (o := { dst := none, op := Op.store 34 (Operand.tmp 5) (Operand.tmp 14), type := 0, pos := "law.go:43", after := #[{ on := 4, ground := Ground.data }, { on := 1, ground := Ground.data }, { on := 3, ground := Ground.chain }, { on := 0, ground := Ground.phase }, { on := 1, ground := Ground.phase }, { on := 2, ground := Ground.textOnly Departure.lateStores }, { on := 3, ground := Ground.textOnly Departure.lateStoresUnsure }, { on := 4, ground := Ground.phase }], guard := none }) rfl (fun K hK => ?_) AllReadyH.nil
        refine step_store_row 34 _ _ rfl rfl _ (cells ⟨p, c, k, t, i, x, y, li, n, raw, lane, ty⟩ (.slice al' li.length cl') (.slice au' (lb ty).length cu')) rfl rfl 34 _ hz infoI rfl (cells_one _ _ _ _ _ _ _) ?_
        obtain ⟨hus, hbs⟩ := run_setRow (cs := cells ⟨p, c, k, t, i, x, y, li, n, raw, lane, ty⟩ (.slice al' li.length cl') (.slice au' (lb ty).length cu')) hz
        have hn := hn.set hus hg5 HGG.out
        have hlu := hlu.upd hus (fun k hk e => hap.1 (by rw [hk, e])) (fun k hk e => hap.2 (by rw [hk, e]))
        clear hus
        refine hK.out _ _ (by first | exact hn | exact Upd.alloc hn _) (fun hn => ?_)
        clear hK K
        try simp only [Act.put, List.setIfInBounds_toArray, List.set_cons_zero, List.set_cons_succ]
        refine wpAnyH_take (i := 6) (oi := { dst := some 6, op := Op.assign (Operand.tmp 16), type := 4, pos := "law.go:43", after := #[{ on := 3, ground := Ground.data }, { on := 5, ground := Ground.chain }, { on := 0, ground := Ground.phase }, { on := 1, ground := Ground.phase }, { on := 2, ground := Ground.phase }, { on := 3, ground := Ground.phase }, { on := 4, ground := Ground.phase }, { on := 5, ground := Ground.phase }], guard := none }) (v := ?v42x3) rfl (by kernel_rfl) (by kernel_rfl) (by kernel_rfl) (fun _ _ _ h => h) (Or.inl ⟨by rfl, ?y42x3⟩) hn ?r42x3
        case y42x3 => (intro wS hS; (try go_simp); (try with_reducible rfl))
        try simp only [Act.put, List.setIfInBounds_toArray, List.set_cons_zero, List.set_cons_succ]
        refine wpAnyH_done (by kernel_rfl) ?_ _
        refine NoPanic.normal ?_
        go_wp2_with fail
        go_meet
        exact ⟨_, _, _, rfl, rfl, hn, hbs, hlu⟩
      refine AllReadyH.cons (o := { dst := some 5, op := Op.alloc 34, type := 0, pos := "law.go:43", after := #[], guard := none }) rfl (fun K hK => ?_) AllReadyH.nil
      go_simp
      refine boxStep ?_
      intro ws hnq hz
      have hg5 := hn.1.size
      have hap := hlu.ap
      have hn := hn.new hnq
      have hlu := hlu.new hnq
      refine hK.out _ _ (by first | exact hn | exact Upd.alloc hn _) (fun hn => ?_)
      clear hK K
      try simp only [Act.put, List.setIfInBounds_toArray, List.set_cons_zero, List.set_cons_succ]
      refine wpAnyH_ready (rs := [3]) (by kernel_rfl) (by simp) ?_
      refine AllReadyH.cons (o := { dst := some 16, op := Op.call { callee := Callee.value (Operand.func 7), args := #[Operand.tmp 15], argTypes := #[25] }, type := 4, pos := "law.go:43", after := #[{ on := 2, ground := Ground.data }, { on := 1, ground := Ground.chain }], guard := none }) rfl (fun K hK => ?_) AllReadyH.nil
      go_simp
      refine (HRR.out _ (HR1.out.new hn.1)).mono ?_
      rintro e wr ⟨rfl, hnq⟩
      go_wp2_with fail
      have hn := hn.new hnq
      (try have hlu := hlu.new hnq)
      (try have hz := hp1 hz hnq)
      refine hK.out _ _ (by first | exact hn | exact Upd.alloc hn _) (fun hn => ?_)
      clear hK K
      try simp only [Act.put, List.setIfInBounds_toArray, List.set_cons_zero, List.set_cons_succ]
      refine wpAnyH_ready (rs := [5]) (by kernel_rfl) (by simp) ?_
      refine AllReadyH.cons (o := { dst := none, op := Op.store 34 (Operand.tmp 5) (Operand.tmp 14), type := 0, pos := "law.go:43", after := #[{ on := 4, ground := Ground.data }, { on := 1, ground := Ground.data }, { on := 3, ground := Ground.chain }, { on := 0, ground := Ground.phase }, { on := 1, ground := Ground.phase }, { on := 2, ground := Ground.textOnly Departure.lateStores }, { on := 3, ground := Ground.textOnly Departure.lateStoresUnsure }, { on := 4, ground := Ground.phase }], guard := none }) rfl (fun K hK => ?_) AllReadyH.nil
      refine step_store_row 34 _ _ rfl rfl _ (cells ⟨p, c, k, t, i, x, y, li, n, raw, lane, ty⟩ (.slice al' li.length cl') (.slice au' (lb ty).length cu')) rfl rfl 34 _ hz infoI rfl (cells_one _ _ _ _ _ _ _) ?_
      obtain ⟨hus, hbs⟩ := run_setRow (cs := cells ⟨p, c, k, t, i, x, y, li, n, raw, lane, ty⟩ (.slice al' li.length cl') (.slice au' (lb ty).length cu')) hz
      have hn := hn.set hus hg5 HGG.out
      have hlu := hlu.upd hus (fun k hk e => hap.1 (by rw [hk, e])) (fun k hk e => hap.2 (by rw [hk, e]))
      clear hus
      refine hK.out _ _ (by first | exact hn | exact Upd.alloc hn _) (fun hn => ?_)
      clear hK K
      try simp only [Act.put, List.setIfInBounds_toArray, List.set_cons_zero, List.set_cons_succ]
      refine wpAnyH_take (i := 6) (oi := { dst := some 6, op := Op.assign (Operand.tmp 16), type := 4, pos := "law.go:43", after := #[{ on := 3, ground := Ground.data }, { on := 5, ground := Ground.chain }, { on := 0, ground := Ground.phase }, { on := 1, ground := Ground.phase }, { on := 2, ground := Ground.phase }, { on := 3, ground := Ground.phase }, { on := 4, ground := Ground.phase }, { on := 5, ground := Ground.phase }], guard := none }) (v := ?v42x4) rfl (by kernel_rfl) (by kernel_rfl) (by kernel_rfl) (fun _ _ _ h => h) (Or.inl ⟨by rfl, ?y42x4⟩) hn ?r42x4
      case y42x4 => (intro wS hS; (try go_simp); (try with_reducible rfl))
      try simp only [Act.put, List.setIfInBounds_toArray, List.set_cons_zero, List.set_cons_succ]
      refine wpAnyH_done (by kernel_rfl) ?_ _
      refine NoPanic.normal ?_
      go_wp2_with fail
      go_meet
      exact ⟨_, _, _, rfl, rfl, hn, hbs, hlu⟩
    refine AllReadyH.cons (o := { dst := some 5, op := Op.alloc 34, type := 0, pos := "law.go:43", after := #[], guard := none }) rfl (fun K hK => ?_) AllReadyH.nil
    go_simp
    refine boxStep ?_
    intro ws hnq hz
    have hg5 := hn.1.size
    have hn := hn.new hnq
    refine hK.out _ _ (by first | exact hn | exact Upd.alloc hn _) (fun hn => ?_)
    clear hK K
    try simp only [Act.put, List.setIfInBounds_toArray, List.set_cons_zero, List.set_cons_succ]
    refine wpAnyH_ready (rs := [1]) (by kernel_rfl) (by simp) ?_
    refine AllReadyH.cons (o := { dst := some 14, op := Op.call { callee := Callee.value (Operand.func 6), args := #[Operand.tmp 13], argTypes := #[25] }, type := 34, pos := "law.go:43", after := #[{ on := 0, ground := Ground.data }], guard := none }) rfl (fun K hK => ?_) AllReadyH.nil
    go_simp
    refine (HOW1.out _ (HR1.out.new hn.1)).mono ?_
    rintro e wq ⟨l', u', rfl, hl', hu', hnq, hf1, hf2, ht1, ht2⟩
    obtain ⟨al', cl', rfl⟩ := hl'.shape
    obtain ⟨au', cu', rfl⟩ := hu'.shape
    go_wp2_with fail
    have hap := Ap2.fresh hz hf1 hf2
    have hz := hp1 hz hnq
    have hn := hn.new hnq
    have hlu : LU li ty (.slice al' li.length cl') (.slice au' (lb ty).length cu') wq := ⟨hl', hu', ht1, ht2⟩
    refine hK.out _ _ (by first | exact hn | exact Upd.alloc hn _) (fun hn => ?_)
    clear hK K
    try simp only [Act.put, List.setIfInBounds_toArray, List.set_cons_zero, List.set_cons_succ]
    refine wpAnyH_ready (rs := [3]) (by kernel_rfl) (by simp) ?_
    refine AllReadyH.cons (o := { dst := some 16, op := Op.call { callee := Callee.value (Operand.func 7), args := #[Operand.tmp 15], argTypes := #[25] }, type := 4, pos := "law.go:43", after := #[{ on := 2, ground := Ground.data }, { on := 1, ground := Ground.chain }], guard := none }) rfl (fun K hK => ?_) AllReadyH.nil
    go_simp
    refine (HRR.out _ (HR1.out.new hn.1)).mono ?_
    rintro e wr ⟨rfl, hnq⟩
    go_wp2_with fail
    have hn := hn.new hnq
    (try have hlu := hlu.new hnq)
    (try have hz := hp1 hz hnq)
    refine hK.out _ _ (by first | exact hn | exact Upd.alloc hn _) (fun hn => ?_)
    clear hK K
    try simp only [Act.put, List.setIfInBounds_toArray, List.set_cons_zero, List.set_cons_succ]
    refine wpAnyH_ready (rs := [5]) (by kernel_rfl) (by simp) ?_
    refine AllReadyH.cons (o := { dst := none, op := Op.store 34 (Operand.tmp 5) (Operand.tmp 14), type := 0, pos := "law.go:43", after := #[{ on := 4, ground := Ground.data }, { on := 1, ground := Ground.data }, { on := 3, ground := Ground.chain }, { on := 0, ground := Ground.phase }, { on := 1, ground := Ground.phase }, { on := 2, ground := Ground.textOnly Departure.lateStores }, { on := 3, ground := Ground.textOnly Departure.lateStoresUnsure }, { on := 4, ground := Ground.phase }], guard := none }) rfl (fun K hK => ?_) AllReadyH.nil
    refine step_store_row 34 _ _ rfl rfl _ (cells ⟨p, c, k, t, i, x, y, li, n, raw, lane, ty⟩ (.slice al' li.length cl') (.slice au' (lb ty).length cu')) rfl rfl 34 _ hz infoI rfl (cells_one _ _ _ _ _ _ _) ?_
    obtain ⟨hus, hbs⟩ := run_setRow (cs := cells ⟨p, c, k, t, i, x, y, li, n, raw, lane, ty⟩ (.slice al' li.length cl') (.slice au' (lb ty).length cu')) hz
    have hn := hn.set hus hg5 HGG.out
    have hlu := hlu.upd hus (fun k hk e => hap.1 (by rw [hk, e])) (fun k hk e => hap.2 (by rw [hk, e]))
    clear hus
    refine hK.out _ _ (by first | exact hn | exact Upd.alloc hn _) (fun hn => ?_)
    clear hK K
    try simp only [Act.put, List.setIfInBounds_toArray, List.set_cons_zero, List.set_cons_succ]
    refine wpAnyH_take (i := 6) (oi := { dst := some 6, op := Op.assign (Operand.tmp 16), type := 4, pos := "law.go:43", after := #[{ on := 3, ground := Ground.data }, { on := 5, ground := Ground.chain }, { on := 0, ground := Ground.phase }, { on := 1, ground := Ground.phase }, { on := 2, ground := Ground.phase }, { on := 3, ground := Ground.phase }, { on := 4, ground := Ground.phase }, { on := 5, ground := Ground.phase }], guard := none }) (v := ?v42x5) rfl (by kernel_rfl) (by kernel_rfl) (by kernel_rfl) (fun _ _ _ h => h) (Or.inl ⟨by rfl, ?y42x5⟩) hn ?r42x5
    case y42x5 => (intro wS hS; (try go_simp); (try with_reducible rfl))
    try simp only [Act.put, List.setIfInBounds_toArray, List.set_cons_zero, List.set_cons_succ]
    refine wpAnyH_done (by kernel_rfl) ?_ _
    refine NoPanic.normal ?_
    go_wp2_with fail
    go_meet
    exact ⟨_, _, _, rfl, rfl, hn, hbs, hlu⟩
  case rest =>
    obtain ⟨g5, l', u', rfl, rfl, hcur⟩ := hcut
    obtain ⟨al', cl', rfl⟩ := hcur.2.2.1.shape
    obtain ⟨au', cu', rfl⟩ := hcur.2.2.2.1.shape
    obtain ⟨w5, rfl⟩ : ∃ w5, w5 = wc := ⟨_, rfl⟩
    have HC5 := hid hcur
    clear hcur HT4
    go_upto_region 4 with fail
    go_cut [30] (fun a wx => a = .bool false ∧ OwnR w2 w.heap.size g5 ⟨p, c, k, t, i, x, y, li, n, raw, lane, ty⟩ ⟨p', c', k', t', i', x', y', li', n', raw', lane', ty'⟩ (.slice al li.length cl) (.slice ao li'.length co) (.slice al' li.length cl') (.slice au' (lb ty).length cu') wx)
    case first =>
      have hn : OwnR w2 w.heap.size g5 ⟨p, c, k, t, i, x, y, li, n, raw, lane, ty⟩ ⟨p', c', k', t', i', x', y', li', n', raw', lane', ty'⟩ (.slice al li.length cl) (.slice ao li'.length co) (.slice al' li.length cl') (.slice au' (lb ty).length cu') w5.drew := HC5.out.new (Upd.refl _ _).drew
      refine wp_region_noPanic ?_
      refine wp_region_held_drew (S := (OwnR w2 w.heap.size g5 ⟨p, c, k, t, i, x, y, li, n, raw, lane, ty⟩ ⟨p', c', k', t', i', x', y', li', n', raw', lane', ty'⟩ (.slice al li.length cl) (.slice ao li'.length co) (.slice al' li.length cl') (.slice au' (lb ty).length cu'))) (by kernel_rfl) (by first | exact hn | exact (Upd.refl _ _).drew | exact Upd.drew (by assumption)) (fun hn => ?_)
      generalize w5.drew = wd at *
      refine wpAnyH_take (i := 0) (oi := { dst := some 17, op := Op.load 34 (Operand.tmp 5), type := 34, pos := "law.go:44", after := #[], guard := none }) (v := ?v43x1) rfl (by kernel_rfl) (by kernel_rfl) (by kernel_rfl) (fun _ _ _ h => h) (Or.inl ⟨by rfl, ?y43x1⟩) hn ?r43x1
      case y43x1 => (intro wS hS; refine run_load_row (x := .tmp 5) ?_ ?_ hS.2.1 Try.underlying34 rfl infoI; rfl; rfl; (try go_simp); (try with_reducible rfl))
      try simp only [Act.put, List.setIfInBounds_toArray, List.set_cons_zero, List.set_cons_succ]
      refine wpAnyH_take (i := 2) (oi := { dst := some 19, op := Op.move (Operand.tmp 6), type := 4, pos := "law.go:44", after := #[], guard := none }) (v := ?v43x2) rfl (by kernel_rfl) (by kernel_rfl) (by kernel_rfl) (fun _ _ _ h => h) (Or.inl ⟨by rfl, ?y43x2⟩) hn ?r43x2
      case y43x2 => (intro wS hS; (try go_simp); (try with_reducible rfl))
      try simp only [Act.put, List.setIfInBounds_toArray, List.set_cons_zero, List.set_cons_succ]
      refine wpAnyH_ready (rs := [1]) (by kernel_rfl) (by simp) ?_
      refine AllReadyH.cons (o := { dst := some 18, op := Op.call { callee := Callee.value (Operand.func 8), args := #[Operand.tmp 17], argTypes := #[34] }, type := 4, pos := "law.go:44", after := #[{ on := 0, ground := Ground.data }], guard := none }) rfl (fun K hK => ?_) AllReadyH.nil
      go_simp
      refine (HPR.out _ _ _ hn.2.2).mono ?_
      rintro e wq ⟨rfl, hnq⟩
      go_wp2_with fail
      have hn := hn.new hnq
      refine hK.out _ _ (by first | exact hn | exact Upd.alloc hn _) (fun hn => ?_)
      clear hK K
      try simp only [Act.put, List.setIfInBounds_toArray, List.set_cons_zero, List.set_cons_succ]
      refine wpAnyH_take (i := 3) (oi := { dst := some 20, op := Op.binOp BinOp.neq 4 (Operand.tmp 18) (Operand.tmp 19) 4, type := 4, pos := "law.go:44", after := #[{ on := 1, ground := Ground.data }, { on := 2, ground := Ground.data }], guard := none }) (v := ?v43x3) rfl (by kernel_rfl) (by kernel_rfl) (by kernel_rfl) (fun _ _ _ h => h) (Or.inl ⟨by rfl, ?y43x3⟩) hn ?r43x3
      case y43x3 => (intro wS hS; go_simp; (try go_simp); (try with_reducible rfl))
      try simp only [Act.put, List.setIfInBounds_toArray, List.set_cons_zero, List.set_cons_succ]
      refine wpAnyH_take (i := 4) (oi := { dst := some 21, op := Op.move (Operand.tmp 20), type := 4, pos := "law.go:44", after := #[{ on := 3, ground := Ground.data }, { on := 1, ground := Ground.chain }], guard := none }) (v := ?v43x4) rfl (by kernel_rfl) (by kernel_rfl) (by kernel_rfl) (fun _ _ _ h => h) (Or.inl ⟨by rfl, ?y43x4⟩) hn ?r43x4
      case y43x4 => (intro wS hS; (try go_simp); (try with_reducible rfl))
      try simp only [Act.put, List.setIfInBounds_toArray, List.set_cons_zero, List.set_cons_succ]
      refine wpAnyH_take (i := 5) (oi := { dst := some 22, op := Op.load 34 (Operand.tmp 5), type := 34, pos := "law.go:44", after := #[{ on := 4, ground := Ground.guard }], guard := some (4, false) }) (v := ?v43x5) rfl (by kernel_rfl) (by kernel_rfl) (by kernel_rfl) (fun _ _ _ h => h) (Or.inl ⟨by rfl, ?y43x5⟩) hn ?r43x5
      case y43x5 => (intro wS hS; refine run_load_row (x := .tmp 5) ?_ ?_ hS.2.1 Try.underlying34 rfl infoI; rfl; rfl; (try go_simp); (try with_reducible rfl))
      try simp only [Act.put, List.setIfInBounds_toArray, List.set_cons_zero, List.set_cons_succ]
      refine wpAnyH_take (i := 6) (oi := { dst := some 23, op := Op.load 25 (Operand.tmp 3), type := 25, pos := "law.go:44", after := #[{ on := 4, ground := Ground.guard }], guard := some (4, false) }) (v := ?v43x6) rfl (by kernel_rfl) (by kernel_rfl) (by kernel_rfl) (fun _ _ _ h => h) (Or.inl ⟨by rfl, ?y43x6⟩) hn ?r43x6
      case y43x6 => (intro wS hS; refine run_load_row (x := .tmp 3) ?_ ?_ hS.1.2.2 Try.underlying25 rfl infoRI; rfl; rfl; (try go_simp); (try with_reducible rfl))
      try simp only [Act.put, List.setIfInBounds_toArray, List.set_cons_zero, List.set_cons_succ]
      refine wpAnyH_take (i := 9) (oi := { dst := some 26, op := Op.load 25 (Operand.tmp 2), type := 25, pos := "law.go:44", after := #[{ on := 4, ground := Ground.guard }], guard := some (4, false) }) (v := ?v43x7) rfl (by kernel_rfl) (by kernel_rfl) (by kernel_rfl) (fun _ _ _ h => h) (Or.inl ⟨by rfl, ?y43x7⟩) hn ?r43x7
      case y43x7 => (intro wS hS; refine run_load_row (x := .tmp 2) ?_ ?_ hS.1.2.1 Try.underlying25 rfl infoRI; rfl; rfl; (try go_simp); (try with_reducible rfl))
      try simp only [Act.put, List.setIfInBounds_toArray, List.set_cons_zero, List.set_cons_succ]
      refine wpAnyH_take (i := 10) (oi := { dst := some 27, op := Op.load 25 (Operand.tmp 3), type := 25, pos := "law.go:44", after := #[{ on := 4, ground := Ground.guard }], guard := some (4, false) }) (v := ?v43x8) rfl (by kernel_rfl) (by kernel_rfl) (by kernel_rfl) (fun _ _ _ h => h) (Or.inl ⟨by rfl, ?y43x8⟩) hn ?r43x8
      case y43x8 => (intro wS hS; refine run_load_row (x := .tmp 3) ?_ ?_ hS.1.2.2 Try.underlying25 rfl infoRI; rfl; rfl; (try go_simp); (try with_reducible rfl))
      try simp only [Act.put, List.setIfInBounds_toArray, List.set_cons_zero, List.set_cons_succ]
      refine wpAnyH_ready (rs := [7]) (by kernel_rfl) (by simp) ?_
      refine AllReadyH.cons (o := { dst := some 24, op := Op.call { callee := Callee.value (Operand.func 6), args := #[Operand.tmp 23], argTypes := #[25] }, type := 34, pos := "law.go:44", after := #[{ on := 6, ground := Ground.data }, { on := 4, ground := Ground.chain }, { on := 4, ground := Ground.guard }], guard := some (4, false) }) rfl (fun K hK => ?_) AllReadyH.nil
      go_simp
      refine (HOW2.out _ (HR2.out.new hn.1.1)).mono ?_
      rintro e wr ⟨l2, u2, rfl, hl2, hu2, hnq, hf1, hf2, ht1, ht2⟩
      obtain ⟨al2, cl2, rfl⟩ := hl2.shape
      obtain ⟨au2, cu2, rfl⟩ := hu2.shape
      go_wp2_with fail
      have hn := hn.new hnq
      have hk2 : LU li' ty' (.slice al2 li'.length cl2) (.slice au2 (lb ty').length cu2) wr := ⟨hl2, hu2, ht1, ht2⟩
      refine hK.out _ _ (by first | exact hn | exact Upd.alloc hn _) (fun hn => ?_)
      clear hK K
      try simp only [Act.put, List.setIfInBounds_toArray, List.set_cons_zero, List.set_cons_succ]
      refine wpAnyH_ready (rs := [8]) (by kernel_rfl) (by simp) ?_
      refine AllReadyH.cons (o := { dst := some 25, op := Op.call { callee := Callee.value (Operand.func 9), args := #[Operand.tmp 22, Operand.tmp 24], argTypes := #[34, 34] }, type := 4, pos := "law.go:44", after := #[{ on := 5, ground := Ground.data }, { on := 7, ground := Ground.data }, { on := 7, ground := Ground.chain }, { on := 4, ground := Ground.guard }], guard := some (4, false) }) rfl (fun K hK => ?_) AllReadyH.nil
      go_simp
      refine (HPS.out _ _ _ _ _ hn.2.2 hk2).mono ?_
      rintro e ws ⟨rfl, hnq⟩
      go_wp2_with fail
      have hn := hn.new hnq
      refine hK.out _ _ (by first | exact hn | exact Upd.alloc hn _) (fun hn => ?_)
      clear hK K
      try simp only [Act.put, List.setIfInBounds_toArray, List.set_cons_zero, List.set_cons_succ]
      refine wpAnyH_ready (rs := [11]) (by kernel_rfl) (by simp) ?_
      refine AllReadyH.cons (o := { dst := some 28, op := Op.call { callee := Callee.value (Operand.func 10), args := #[Operand.tmp 26, Operand.tmp 27], argTypes := #[25, 25] }, type := 4, pos := "law.go:44", after := #[{ on := 9, ground := Ground.data }, { on := 10, ground := Ground.data }, { on := 8, ground := Ground.chain }, { on := 4, ground := Ground.guard }], guard := some (4, false) }) rfl (fun K hK => ?_) AllReadyH.nil
      go_simp
      refine (HRS.out _ (HR1.out.new hn.1.1) (HR2.out.new hn.1.1)).mono ?_
      rintro e wt ⟨rfl, hnq⟩
      go_wp2_with fail
      have hn := hn.new hnq
      (try have hk2 := hk2.new hnq)
      refine hK.out _ _ (by first | exact hn | exact Upd.alloc hn _) (fun hn => ?_)
      clear hK K
      try simp only [Act.put, List.setIfInBounds_toArray, List.set_cons_zero, List.set_cons_succ]
      refine wpAnyH_take (i := 12) (oi := { dst := some 29, op := Op.binOp BinOp.neq 4 (Operand.tmp 25) (Operand.tmp 28) 4, type := 4, pos := "law.go:44", after := #[{ on := 8, ground := Ground.data }, { on := 11, ground := Ground.data }, { on := 4, ground := Ground.guard }], guard := some (4, false) }) (v := ?v43x9) rfl (by kernel_rfl) (by kernel_rfl) (by kernel_rfl) (fun _ _ _ h => h) (Or.inl ⟨by rfl, ?y43x9⟩) hn ?r43x9
      case y43x9 => (intro wS hS; go_simp; (try go_simp); (try with_reducible rfl))
      try simp only [Act.put, List.setIfInBounds_toArray, List.set_cons_zero, List.set_cons_succ]
      refine wpAnyH_take (i := 13) (oi := { dst := some 30, op := Op.pick (Operand.tmp 21) (Operand.const (Value.bool true)) (Operand.tmp 29), type := 4, pos := "law.go:44", after := #[{ on := 4, ground := Ground.data }, { on := 12, ground := Ground.data }], guard := none }) (v := ?v43x10) rfl (by kernel_rfl) (by kernel_rfl) (by kernel_rfl) (fun _ _ _ h => h) (Or.inl ⟨by rfl, ?y43x10⟩) hn ?r43x10
      case y43x10 => (intro wS hS; (try go_simp); (try with_reducible rfl))
      try simp only [Act.put, List.setIfInBounds_toArray, List.set_cons_zero, List.set_cons_succ]
      refine wpAnyH_done (by kernel_rfl) ?_ _
      refine NoPanic.normal ?_
      go_wp2_with fail
      go_meet
      exact ⟨rfl, hn⟩
    case rest =>
      obtain ⟨rfl, hcur⟩ := hcut
      obtain ⟨w6, rfl⟩ : ∃ w6, w6 = wc := ⟨_, rfl⟩
      have HC6 := hid hcur
      clear hcur HC5
      have hAW := hid (fun w => awakeI_any w)
      cases may with
      | false =>
        go_wp2_with fail
        have hn : OwnR w2 w.heap.size g5 ⟨p, c, k, t, i, x, y, li, n, raw, lane, ty⟩ ⟨p', c', k', t', i', x', y', li', n', raw', lane', ty'⟩ (.slice al li.length cl) (.slice ao li'.length co) (.slice al' li.length cl') (.slice au' (lb ty).length cu') w6.drew := HC6.out.new (Upd.refl _ _).drew
        refine wp_region_noPanic ?_
        refine wp_region_held_drew (S := (OwnR w2 w.heap.size g5 ⟨p, c, k, t, i, x, y, li, n, raw, lane, ty⟩ ⟨p', c', k', t', i', x', y', li', n', raw', lane', ty'⟩ (.slice al li.length cl) (.slice ao li'.length co) (.slice al' li.length cl') (.slice au' (lb ty).length cu'))) (by kernel_rfl) (by first | exact hn | exact (Upd.refl _ _).drew | exact Upd.drew (by assumption)) (fun hn => ?_)
        generalize w6.drew = wd at *
        refine wpAnyH_take (i := 0) (oi := { dst := some 31, op := Op.move (Operand.tmp 6), type := 4, pos := "law.go:47", after := #[], guard := none }) (v := ?v44x1) rfl (by kernel_rfl) (by kernel_rfl) (by kernel_rfl) (fun _ _ _ h => h) (Or.inl ⟨by rfl, ?y44x1⟩) hn ?r44x1
        case y44x1 => (intro wS hS; (try go_simp); (try with_reducible rfl))
        try simp only [Act.put, List.setIfInBounds_toArray, List.set_cons_zero, List.set_cons_succ]
        refine wpAnyH_take (i := 1) (oi := { dst := some 32, op := Op.unOp UnOp.not 4 (Operand.tmp 31), type := 4, pos := "law.go:47", after := #[{ on := 0, ground := Ground.data }], guard := none }) (v := ?v44x2) rfl (by kernel_rfl) (by kernel_rfl) (by kernel_rfl) (fun _ _ _ h => h) (Or.inl ⟨by rfl, ?y44x2⟩) hn ?r44x2
        case y44x2 => (intro wS hS; (try go_simp); (try with_reducible rfl))
        try simp only [Act.put, List.setIfInBounds_toArray, List.set_cons_zero, List.set_cons_succ]
        refine wpAnyH_take (i := 2) (oi := { dst := some 33, op := Op.move (Operand.tmp 32), type := 4, pos := "law.go:47", after := #[{ on := 1, ground := Ground.data }], guard := none }) (v := ?v44x3) rfl (by kernel_rfl) (by kernel_rfl) (by kernel_rfl) (fun _ _ _ h => h) (Or.inl ⟨by rfl, ?y44x3⟩) hn ?r44x3
        case y44x3 => (intro wS hS; (try go_simp); (try with_reducible rfl))
        try simp only [Act.put, List.setIfInBounds_toArray, List.set_cons_zero, List.set_cons_succ]
        refine wpAnyH_take (i := 3) (oi := { dst := some 34, op := Op.load 34 (Operand.tmp 5), type := 34, pos := "law.go:47", after := #[{ on := 2, ground := Ground.guard }], guard := some (2, false) }) (v := undef) rfl (by kernel_rfl) (by kernel_rfl) (by kernel_rfl) (fun _ _ _ h => h) (Or.inr ⟨by rfl, rfl⟩) hn ?_
        try simp only [Act.put, List.setIfInBounds_toArray, List.set_cons_zero, List.set_cons_succ]
        refine wpAnyH_take (i := 4) (oi := { dst := some 35, op := Op.buildSlice 39 1 #[(0, Operand.const (Value.int IntKind.u8 9))], type := 39, pos := "law.go:47", after := #[{ on := 2, ground := Ground.guard }], guard := some (2, false) }) (v := undef) rfl (by kernel_rfl) (by kernel_rfl) (by kernel_rfl) (fun _ _ _ h => h) (Or.inr ⟨by rfl, rfl⟩) hn ?_
        try simp only [Act.put, List.setIfInBounds_toArray, List.set_cons_zero, List.set_cons_succ]
        refine wpAnyH_take (i := 5) (oi := { dst := some 36, op := Op.call { callee := Callee.value (Operand.func 11), args := #[Operand.tmp 34, Operand.tmp 35], argTypes := #[34, 39] }, type := 39, pos := "law.go:47", after := #[{ on := 3, ground := Ground.data }, { on := 4, ground := Ground.data }, { on := 2, ground := Ground.chain }, { on := 2, ground := Ground.guard }], guard := some (2, false) }) (v := undef) rfl (by kernel_rfl) (by kernel_rfl) (by kernel_rfl) (fun _ _ _ h => h) (Or.inr ⟨by rfl, rfl⟩) hn ?_
        try simp only [Act.put, List.setIfInBounds_toArray, List.set_cons_zero, List.set_cons_succ]
        refine wpAnyH_take (i := 6) (oi := { dst := some 37, op := Op.convert 39 9 (Operand.tmp 36), type := 9, pos := "law.go:47", after := #[{ on := 5, ground := Ground.data }, { on := 2, ground := Ground.guard }], guard := some (2, false) }) (v := undef) rfl (by kernel_rfl) (by kernel_rfl) (by kernel_rfl) (fun _ _ _ h => h) (Or.inr ⟨by rfl, rfl⟩) hn ?_
        try simp only [Act.put, List.setIfInBounds_toArray, List.set_cons_zero, List.set_cons_succ]
        refine wpAnyH_take (i := 7) (oi := { dst := some 38, op := Op.load 25 (Operand.tmp 2), type := 25, pos := "law.go:47", after := #[{ on := 2, ground := Ground.guard }], guard := some (2, false) }) (v := undef) rfl (by kernel_rfl) (by kernel_rfl) (by kernel_rfl) (fun _ _ _ h => h) (Or.inr ⟨by rfl, rfl⟩) hn ?_
        try simp only [Act.put, List.setIfInBounds_toArray, List.set_cons_zero, List.set_cons_succ]
        refine wpAnyH_take (i := 8) (oi := { dst := some 39, op := Op.call { callee := Callee.value (Operand.func 12), args := #[Operand.tmp 38, Operand.const (Value.int IntKind.i64 0)], argTypes := #[25, 3] }, type := 9, pos := "law.go:47", after := #[{ on := 7, ground := Ground.data }, { on := 5, ground := Ground.chain }, { on := 2, ground := Ground.guard }], guard := some (2, false) }) (v := undef) rfl (by kernel_rfl) (by kernel_rfl) (by kernel_rfl) (fun _ _ _ h => h) (Or.inr ⟨by rfl, rfl⟩) hn ?_
        try simp only [Act.put, List.setIfInBounds_toArray, List.set_cons_zero, List.set_cons_succ]
        refine wpAnyH_take (i := 9) (oi := { dst := some 40, op := Op.binOp BinOp.add 9 (Operand.const (Value.string { data := #[9] })) (Operand.tmp 39) 9, type := 9, pos := "law.go:47", after := #[{ on := 8, ground := Ground.data }, { on := 2, ground := Ground.guard }], guard := some (2, false) }) (v := undef) rfl (by kernel_rfl) (by kernel_rfl) (by kernel_rfl) (fun _ _ _ h => h) (Or.inr ⟨by rfl, rfl⟩) hn ?_
        try simp only [Act.put, List.setIfInBounds_toArray, List.set_cons_zero, List.set_cons_succ]
        refine wpAnyH_take (i := 10) (oi := { dst := some 41, op := Op.binOp BinOp.eql 9 (Operand.tmp 37) (Operand.tmp 40) 9, type := 4, pos := "law.go:47", after := #[{ on := 6, ground := Ground.data }, { on := 9, ground := Ground.data }, { on := 2, ground := Ground.guard }], guard := some (2, false) }) (v := undef) rfl (by kernel_rfl) (by kernel_rfl) (by kernel_rfl) (fun _ _ _ h => h) (Or.inr ⟨by rfl, rfl⟩) hn ?_
        try simp only [Act.put, List.setIfInBounds_toArray, List.set_cons_zero, List.set_cons_succ]
        refine wpAnyH_take (i := 11) (oi := { dst := some 42, op := Op.pick (Operand.tmp 33) (Operand.const (Value.bool true)) (Operand.tmp 41), type := 4, pos := "law.go:47", after := #[{ on := 2, ground := Ground.data }, { on := 10, ground := Ground.data }], guard := none }) (v := ?v44x12) rfl (by kernel_rfl) (by kernel_rfl) (by kernel_rfl) (fun _ _ _ h => h) (Or.inl ⟨by rfl, ?y44x12⟩) hn ?r44x12
        case y44x12 => (intro wS hS; (try go_simp); (try with_reducible rfl))
        try simp only [Act.put, List.setIfInBounds_toArray, List.set_cons_zero, List.set_cons_succ]
        refine wpAnyH_take (i := 12) (oi := { dst := some 43, op := Op.move (Operand.tmp 42), type := 4, pos := "law.go:47", after := #[{ on := 11, ground := Ground.data }, { on := 8, ground := Ground.chain }], guard := none }) (v := ?v44x13) rfl (by kernel_rfl) (by kernel_rfl) (by kernel_rfl) (fun _ _ _ h => h) (Or.inl ⟨by rfl, ?y44x13⟩) hn ?r44x13
        case y44x13 => (intro wS hS; (try go_simp); (try with_reducible rfl))
        try simp only [Act.put, List.setIfInBounds_toArray, List.set_cons_zero, List.set_cons_succ]
        refine wpAnyH_ready (rs := [13]) (by kernel_rfl) (by simp) ?_
        refine AllReadyH.cons (o := { dst := some 44, op := Op.call { callee := Callee.value (Operand.func 13), args := #[], argTypes := #[] }, type := 4, pos := "law.go:47", after := #[{ on := 12, ground := Ground.chain }, { on := 12, ground := Ground.guard }], guard := some (12, true) }) rfl (fun K hK => ?_) AllReadyH.nil
        go_simp
        refine (hAW.out _).mono ?_
        rintro e wq ⟨rfl, hnq⟩
        go_wp2_with fail
        have hn := hn.new hnq
        refine hK.out _ _ (by first | exact hn | exact Upd.alloc hn _) (fun hn => ?_)
        clear hK K
        try simp only [Act.put, List.setIfInBounds_toArray, List.set_cons_zero, List.set_cons_succ]
        refine wpAnyH_take (i := 14) (oi := { dst := some 45, op := Op.pick (Operand.tmp 43) (Operand.tmp 44) (Operand.const (Value.bool false)), type := 4, pos := "law.go:47", after := #[{ on := 12, ground := Ground.data }, { on := 13, ground := Ground.data }], guard := none }) (v := ?v44x14) rfl (by kernel_rfl) (by kernel_rfl) (by kernel_rfl) (fun _ _ _ h => h) (Or.inl ⟨by rfl, ?y44x14⟩) hn ?r44x14
        case y44x14 => (intro wS hS; (try go_simp); (try with_reducible rfl))
        try simp only [Act.put, List.setIfInBounds_toArray, List.set_cons_zero, List.set_cons_succ]
        refine wpAnyH_take (i := 15) (oi := { dst := some 4, op := Op.assign (Operand.tmp 45), type := 4, pos := "law.go:47", after := #[{ on := 14, ground := Ground.data }, { on := 13, ground := Ground.chain }, { on := 0, ground := Ground.phase }, { on := 1, ground := Ground.phase }, { on := 2, ground := Ground.phase }, { on := 3, ground := Ground.phase }, { on := 4, ground := Ground.phase }, { on := 5, ground := Ground.phase }, { on := 6, ground := Ground.phase }, { on := 7, ground := Ground.phase }, { on := 8, ground := Ground.phase }, { on := 9, ground := Ground.phase }, { on := 10, ground := Ground.phase }, { on := 11, ground := Ground.phase }, { on := 12, ground := Ground.phase }, { on := 13, ground := Ground.phase }, { on := 14, ground := Ground.phase }], guard := none }) (v := ?v44x15) rfl (by kernel_rfl) (by kernel_rfl) (by kernel_rfl) (fun _ _ _ h => h) (Or.inl ⟨by rfl, ?y44x15⟩) hn ?r44x15
        case y44x15 => (intro wS hS; (try go_simp); (try with_reducible rfl))
        try simp only [Act.put, List.setIfInBounds_toArray, List.set_cons_zero, List.set_cons_succ]
        refine wpAnyH_done (by kernel_rfl) ?_ _
        refine NoPanic.normal ?_
        go_wp2_with fail
        go_ret
        exact ⟨rfl, New.trans HN.out hn.1.1⟩
      | true =>
        have hrq : RightQ ⟨p, c, k, t, i, x, y, li, n, raw, lane, ty⟩ := by rw [← HM.out]; exact hmay.1 rfl
        obtain ⟨LL, hLL⟩ : ∃ LL, opBytes p c ++ putB (shapeV p c).1 ⟨p, c, k, t, i, x, y, li, n, raw, lane, ty⟩ = LL := ⟨_, rfl⟩
        have hlen : LL.length ≤ 20000 := by
          rw [← hLL, List.length_append]
          have q1 := opBytes_len p c hc
          have q2 := putB_len (s := (shapeV p c).1) (p := p) (c := c) (t := t) (lane := lane) (k := k) hi hx hy HL.out (by omega) (by omega) (by omega : ty.size ≤ 1000) n1 n2 (raw := raw)
          omega
        have HRP : Hid (∀ w', RdM .u32 w' (.slice al li.length cl) li → Calls Try.prog 12 #[rI ⟨p, c, k, t, i, x, y, li, n, raw, lane, ty⟩ (.slice al li.length cl), .int .i64 0] w' (Says LL w')) := by
          show ∀ w', _
          intro w' h
          have hz := rPut_any p c t i x y lane 0 k n li raw ty (.slice al li.length cl) w' hp hc ht hi hx hy hlane n1 n2 HL.out (by omega) (by omega) (by omega) (by decide) h hrq.2.1.2.1
          rw [opR_zero _ _ hc, put_zero hi hx hy HL.out (by omega) (by omega) n1 n2 hrq.2.1.2.1 (bt_of hrq) (raw_of hrq), hLL] at hz
          exact hz
        have HPP : Hid (∀ v w', Bytes w' v [9] → OwnR w2 w.heap.size g5 ⟨p, c, k, t, i, x, y, li, n, raw, lane, ty⟩ ⟨p', c', k', t', i', x', y', li', n', raw', lane', ty'⟩ (.slice al li.length cl) (.slice ao li'.length co) (.slice al' li.length cl') (.slice au' (lb ty).length cu') w' → Apart v (.slice al' li.length cl') → Apart v (.slice au' (lb ty).length cu') → Calls Try.prog 11 #[pI ⟨p, c, k, t, i, x, y, li, n, raw, lane, ty⟩ (.slice al' li.length cl') (.slice au' (lb ty).length cu'), v] w' (Post w' v (9 :: LL))) := by
          show ∀ v w', _
          intro v w' hb hs h3 h4
          have hz := pPut_any p c t i x y lane k n li raw ty (.slice al' li.length cl') (.slice au' (lb ty).length cu') v [9] w' hp hc ht hi hx hy hlane n1 n2 HL.out (by omega) (by omega) (by omega) (by decide) hb hs.2.2.1 hs.2.2.2.1 h3 h4 hs.2.2.2.2.1 hs.2.2.2.2.2 hrq.1
          rw [hLL] at hz
          exact hz
        clear hLL hrq hmay hbG hbO hbS
        have hLL : ((⟨#[9]⟩ : ByteArray) ++ ⟨LL.toArray⟩ = ⟨(9 :: LL).toArray⟩) := st_cat [9] LL
        obtain ⟨L9, hL9⟩ : ∃ L9, 9 :: LL = L9 := ⟨_, rfl⟩
        rw [hL9] at hLL HPP
        clear hL9
        have hcc : ¬ 9223372036854775807 < 1 + LL.length := by omega
        have hcc2 : ¬ 9223372036854775807 < LL.length + 1 := by omega
        go_wp2_with fail
        have hn : OwnR w2 w.heap.size g5 ⟨p, c, k, t, i, x, y, li, n, raw, lane, ty⟩ ⟨p', c', k', t', i', x', y', li', n', raw', lane', ty'⟩ (.slice al li.length cl) (.slice ao li'.length co) (.slice al' li.length cl') (.slice au' (lb ty).length cu') w6.drew := HC6.out.new (Upd.refl _ _).drew
        refine wp_region_noPanic ?_
        refine wp_region_held_drew (S := (OwnR w2 w.heap.size g5 ⟨p, c, k, t, i, x, y, li, n, raw, lane, ty⟩ ⟨p', c', k', t', i', x', y', li', n', raw', lane', ty'⟩ (.slice al li.length cl) (.slice ao li'.length co) (.slice al' li.length cl') (.slice au' (lb ty).length cu'))) (by kernel_rfl) (by first | exact hn | exact (Upd.refl _ _).drew | exact Upd.drew (by assumption)) (fun hn => ?_)
        generalize w6.drew = wd at *
        refine wpAnyH_take (i := 0) (oi := { dst := some 31, op := Op.move (Operand.tmp 6), type := 4, pos := "law.go:47", after := #[], guard := none }) (v := ?v45x1) rfl (by kernel_rfl) (by kernel_rfl) (by kernel_rfl) (fun _ _ _ h => h) (Or.inl ⟨by rfl, ?y45x1⟩) hn ?r45x1
        case y45x1 => (intro wS hS; (try go_simp); (try with_reducible rfl))
        try simp only [Act.put, List.setIfInBounds_toArray, List.set_cons_zero, List.set_cons_succ]
        refine wpAnyH_take (i := 1) (oi := { dst := some 32, op := Op.unOp UnOp.not 4 (Operand.tmp 31), type := 4, pos := "law.go:47", after := #[{ on := 0, ground := Ground.data }], guard := none }) (v := ?v45x2) rfl (by kernel_rfl) (by kernel_rfl) (by kernel_rfl) (fun _ _ _ h => h) (Or.inl ⟨by rfl, ?y45x2⟩) hn ?r45x2
        case y45x2 => (intro wS hS; (try go_simp); (try with_reducible rfl))
        try simp only [Act.put, List.setIfInBounds_toArray, List.set_cons_zero, List.set_cons_succ]
        refine wpAnyH_take (i := 2) (oi := { dst := some 33, op := Op.move (Operand.tmp 32), type := 4, pos := "law.go:47", after := #[{ on := 1, ground := Ground.data }], guard := none }) (v := ?v45x3) rfl (by kernel_rfl) (by kernel_rfl) (by kernel_rfl) (fun _ _ _ h => h) (Or.inl ⟨by rfl, ?y45x3⟩) hn ?r45x3
        case y45x3 => (intro wS hS; (try go_simp); (try with_reducible rfl))
        try simp only [Act.put, List.setIfInBounds_toArray, List.set_cons_zero, List.set_cons_succ]
        refine wpAnyH_take (i := 3) (oi := { dst := some 34, op := Op.load 34 (Operand.tmp 5), type := 34, pos := "law.go:47", after := #[{ on := 2, ground := Ground.guard }], guard := some (2, false) }) (v := ?v45x4) rfl (by kernel_rfl) (by kernel_rfl) (by kernel_rfl) (fun _ _ _ h => h) (Or.inl ⟨by rfl, ?y45x4⟩) hn ?r45x4
        case y45x4 => (intro wS hS; refine run_load_row (x := .tmp 5) ?_ ?_ hS.2.1 Try.underlying34 rfl infoI; rfl; rfl; (try go_simp); (try with_reducible rfl))
        try simp only [Act.put, List.setIfInBounds_toArray, List.set_cons_zero, List.set_cons_succ]
        refine wpAnyH_take (i := 7) (oi := { dst := some 38, op := Op.load 25 (Operand.tmp 2), type := 25, pos := "law.go:47", after := #[{ on := 2, ground := Ground.guard }], guard := some (2, false) }) (v := ?v45x5) rfl (by kernel_rfl) (by kernel_rfl) (by kernel_rfl) (fun _ _ _ h => h) (Or.inl ⟨by rfl, ?y45x5⟩) hn ?r45x5
        case y45x5 => (intro wS hS; refine run_load_row (x := .tmp 2) ?_ ?_ hS.1.2.1 Try.underlying25 rfl infoRI; rfl; rfl; (try go_simp); (try with_reducible rfl))
        try simp only [Act.put, List.setIfInBounds_toArray, List.set_cons_zero, List.set_cons_succ]
        refine wpAnyH_ready (rs := [4]) (by kernel_rfl) (by simp) ?_
        refine AllReadyH.cons (o := { dst := some 35, op := Op.buildSlice 39 1 #[(0, Operand.const (Value.int IntKind.u8 9))], type := 39, pos := "law.go:47", after := #[{ on := 2, ground := Ground.guard }], guard := some (2, false) }) rfl (fun K hK => ?_) AllReadyH.nil
        go_simp
        refine nineStep ?_
        intro wn hN0 hb9 hf0
        have hap9 := hn.2.2.ap
        have hn0 := hn
        have hn := hn.new hN0
        refine hK.out _ _ (by first | exact hn | exact Upd.alloc hn _) (fun hn => ?_)
        clear hK K
        try simp only [Act.put, List.setIfInBounds_toArray, List.set_cons_zero, List.set_cons_succ]
        refine wpAnyH_ready (rs := [5]) (by kernel_rfl) (by simp) ?_
        refine AllReadyH.cons (o := { dst := some 36, op := Op.call { callee := Callee.value (Operand.func 11), args := #[Operand.tmp 34, Operand.tmp 35], argTypes := #[34, 39] }, type := 39, pos := "law.go:47", after := #[{ on := 3, ground := Ground.data }, { on := 4, ground := Ground.data }, { on := 2, ground := Ground.chain }, { on := 2, ground := Ground.guard }], guard := some (2, false) }) rfl (fun K hK => ?_) AllReadyH.nil
        go_simp
        refine (HPP.out _ _ hb9 hn (fun k hk => by cases hk; exact hap9.1) (fun k hk => by cases hk; exact hap9.2)).mono ?_
        rintro e wp ⟨vp, rfl, hbp, hadp⟩
        go_wp2_with fail
        have hn := hn0.new (Upd.newAdds hN0 hf0 hadp)
        refine hK.out _ _ (by first | exact hn | exact Upd.alloc hn _) (fun hn => ?_)
        clear hK K
        try simp only [Act.put, List.setIfInBounds_toArray, List.set_cons_zero, List.set_cons_succ]
        refine wpAnyH_ready (rs := [6, 8]) (by kernel_rfl) (by simp) ?_
        refine AllReadyH.cons (o := { dst := some 37, op := Op.convert 39 9 (Operand.tmp 36), type := 9, pos := "law.go:47", after := #[{ on := 5, ground := Ground.data }, { on := 2, ground := Ground.guard }], guard := some (2, false) }) rfl (fun K hK => ?_) ?_
        · skip
          have hs := hbp.rd.str
          go_simp
          refine hK.out _ _ (by first | exact hn | exact Upd.alloc hn _) (fun hn => ?_)
          clear hK K
          try simp only [Act.put, List.setIfInBounds_toArray, List.set_cons_zero, List.set_cons_succ]
          refine wpAnyH_ready (rs := [8]) (by kernel_rfl) (by simp) ?_
          refine AllReadyH.cons (o := { dst := some 39, op := Op.call { callee := Callee.value (Operand.func 12), args := #[Operand.tmp 38, Operand.const (Value.int IntKind.i64 0)], argTypes := #[25, 3] }, type := 9, pos := "law.go:47", after := #[{ on := 7, ground := Ground.data }, { on := 5, ground := Ground.chain }, { on := 2, ground := Ground.guard }], guard := some (2, false) }) rfl (fun K hK => ?_) AllReadyH.nil
          go_simp
          refine (HRP.out _ (HR1.out.new hn.1.1)).mono ?_
          rintro e wt ⟨rfl, hnq⟩
          go_wp2_with fail
          have hn := hn.new hnq
          (try have hN0 := New.trans hN0 hnq)
          (try have hb9 := hb9.new hnq)
          (try have hbp := hbp.new hnq)
          refine hK.out _ _ (by first | exact hn | exact Upd.alloc hn _) (fun hn => ?_)
          clear hK K
          try simp only [Act.put, List.setIfInBounds_toArray, List.set_cons_zero, List.set_cons_succ]
          refine wpAnyH_take (i := 9) (oi := { dst := some 40, op := Op.binOp BinOp.add 9 (Operand.const (Value.string { data := #[9] })) (Operand.tmp 39) 9, type := 9, pos := "law.go:47", after := #[{ on := 8, ground := Ground.data }, { on := 2, ground := Ground.guard }], guard := some (2, false) }) (v := ?v45x6) rfl (by kernel_rfl) (by kernel_rfl) (by kernel_rfl) (fun _ _ _ h => h) (Or.inl ⟨by rfl, ?y45x6⟩) hn ?r45x6
          case y45x6 => (intro wS hS; (try go_simp); (try with_reducible rfl))
          try simp only [Act.put, List.setIfInBounds_toArray, List.set_cons_zero, List.set_cons_succ]
          refine wpAnyH_take (i := 10) (oi := { dst := some 41, op := Op.binOp BinOp.eql 9 (Operand.tmp 37) (Operand.tmp 40) 9, type := 4, pos := "law.go:47", after := #[{ on := 6, ground := Ground.data }, { on := 9, ground := Ground.data }, { on := 2, ground := Ground.guard }], guard := some (2, false) }) (v := ?v45x7) rfl (by kernel_rfl) (by kernel_rfl) (by kernel_rfl) (fun _ _ _ h => h) (Or.inl ⟨by rfl, ?y45x7⟩) hn ?r45x7
          case y45x7 => (intro wS hS; (try go_simp); (try with_reducible rfl))
          try simp only [Act.put, List.setIfInBounds_toArray, List.set_cons_zero, List.set_cons_succ]
          refine wpAnyH_take (i := 11) (oi := { dst := some 42, op := Op.pick (Operand.tmp 33) (Operand.const (Value.bool true)) (Operand.tmp 41), type := 4, pos := "law.go:47", after := #[{ on := 2, ground := Ground.data }, { on := 10, ground := Ground.data }], guard := none }) (v := ?v45x8) rfl (by kernel_rfl) (by kernel_rfl) (by kernel_rfl) (fun _ _ _ h => h) (Or.inl ⟨by rfl, ?y45x8⟩) hn ?r45x8
          case y45x8 => (intro wS hS; (try go_simp); (try with_reducible rfl))
          try simp only [Act.put, List.setIfInBounds_toArray, List.set_cons_zero, List.set_cons_succ]
          refine wpAnyH_take (i := 12) (oi := { dst := some 43, op := Op.move (Operand.tmp 42), type := 4, pos := "law.go:47", after := #[{ on := 11, ground := Ground.data }, { on := 8, ground := Ground.chain }], guard := none }) (v := ?v45x9) rfl (by kernel_rfl) (by kernel_rfl) (by kernel_rfl) (fun _ _ _ h => h) (Or.inl ⟨by rfl, ?y45x9⟩) hn ?r45x9
          case y45x9 => (intro wS hS; (try go_simp); (try with_reducible rfl))
          try simp only [Act.put, List.setIfInBounds_toArray, List.set_cons_zero, List.set_cons_succ]
          refine wpAnyH_ready (rs := [13]) (by kernel_rfl) (by simp) ?_
          refine AllReadyH.cons (o := { dst := some 44, op := Op.call { callee := Callee.value (Operand.func 13), args := #[], argTypes := #[] }, type := 4, pos := "law.go:47", after := #[{ on := 12, ground := Ground.chain }, { on := 12, ground := Ground.guard }], guard := some (12, true) }) rfl (fun K hK => ?_) AllReadyH.nil
          go_simp
          refine (hAW.out _).mono ?_
          rintro e wq ⟨rfl, hnq⟩
          go_wp2_with fail
          have hn := hn.new hnq
          refine hK.out _ _ (by first | exact hn | exact Upd.alloc hn _) (fun hn => ?_)
          clear hK K
          try simp only [Act.put, List.setIfInBounds_toArray, List.set_cons_zero, List.set_cons_succ]
          refine wpAnyH_take (i := 14) (oi := { dst := some 45, op := Op.pick (Operand.tmp 43) (Operand.tmp 44) (Operand.const (Value.bool false)), type := 4, pos := "law.go:47", after := #[{ on := 12, ground := Ground.data }, { on := 13, ground := Ground.data }], guard := none }) (v := ?v45x10) rfl (by kernel_rfl) (by kernel_rfl) (by kernel_rfl) (fun _ _ _ h => h) (Or.inl ⟨by rfl, ?y45x10⟩) hn ?r45x10
          case y45x10 => (intro wS hS; (try go_simp); (try with_reducible rfl))
          try simp only [Act.put, List.setIfInBounds_toArray, List.set_cons_zero, List.set_cons_succ]
          refine wpAnyH_take (i := 15) (oi := { dst := some 4, op := Op.assign (Operand.tmp 45), type := 4, pos := "law.go:47", after := #[{ on := 14, ground := Ground.data }, { on := 13, ground := Ground.chain }, { on := 0, ground := Ground.phase }, { on := 1, ground := Ground.phase }, { on := 2, ground := Ground.phase }, { on := 3, ground := Ground.phase }, { on := 4, ground := Ground.phase }, { on := 5, ground := Ground.phase }, { on := 6, ground := Ground.phase }, { on := 7, ground := Ground.phase }, { on := 8, ground := Ground.phase }, { on := 9, ground := Ground.phase }, { on := 10, ground := Ground.phase }, { on := 11, ground := Ground.phase }, { on := 12, ground := Ground.phase }, { on := 13, ground := Ground.phase }, { on := 14, ground := Ground.phase }], guard := none }) (v := ?v45x11) rfl (by kernel_rfl) (by kernel_rfl) (by kernel_rfl) (fun _ _ _ h => h) (Or.inl ⟨by rfl, ?y45x11⟩) hn ?r45x11
          case y45x11 => (intro wS hS; (try go_simp); (try with_reducible rfl))
          try simp only [Act.put, List.setIfInBounds_toArray, List.set_cons_zero, List.set_cons_succ]
          refine wpAnyH_done (by kernel_rfl) ?_ _
          refine NoPanic.normal ?_
          go_wp2_with fail
          go_ret
          exact ⟨rfl, New.trans HN.out hn.1.1⟩
        refine AllReadyH.cons (o := { dst := some 39, op := Op.call { callee := Callee.value (Operand.func 12), args := #[Operand.tmp 38, Operand.const (Value.int IntKind.i64 0)], argTypes := #[25, 3] }, type := 9, pos := "law.go:47", after := #[{ on := 7, ground := Ground.data }, { on := 5, ground := Ground.chain }, { on := 2, ground := Ground.guard }], guard := some (2, false) }) rfl (fun K hK => ?_) AllReadyH.nil
        go_simp
        refine (HRP.out _ (HR1.out.new hn.1.1)).mono ?_
        rintro e wt ⟨rfl, hnq⟩
        go_wp2_with fail
        have hn := hn.new hnq
        (try have hN0 := New.trans hN0 hnq)
        (try have hb9 := hb9.new hnq)
        (try have hbp := hbp.new hnq)
        refine hK.out _ _ (by first | exact hn | exact Upd.alloc hn _) (fun hn => ?_)
        clear hK K
        try simp only [Act.put, List.setIfInBounds_toArray, List.set_cons_zero, List.set_cons_succ]
        refine wpAnyH_take (i := 9) (oi := { dst := some 40, op := Op.binOp BinOp.add 9 (Operand.const (Value.string { data := #[9] })) (Operand.tmp 39) 9, type := 9, pos := "law.go:47", after := #[{ on := 8, ground := Ground.data }, { on := 2, ground := Ground.guard }], guard := some (2, false) }) (v := ?v45x12) rfl (by kernel_rfl) (by kernel_rfl) (by kernel_rfl) (fun _ _ _ h => h) (Or.inl ⟨by rfl, ?y45x12⟩) hn ?r45x12
        case y45x12 => (intro wS hS; (try go_simp); (try with_reducible rfl))
        try simp only [Act.put, List.setIfInBounds_toArray, List.set_cons_zero, List.set_cons_succ]
        refine wpAnyH_ready (rs := [6]) (by kernel_rfl) (by simp) ?_
        refine AllReadyH.cons (o := { dst := some 37, op := Op.convert 39 9 (Operand.tmp 36), type := 9, pos := "law.go:47", after := #[{ on := 5, ground := Ground.data }, { on := 2, ground := Ground.guard }], guard := some (2, false) }) rfl (fun K hK => ?_) AllReadyH.nil
        have hs := hbp.rd.str
        go_simp
        refine hK.out _ _ (by first | exact hn | exact Upd.alloc hn _) (fun hn => ?_)
        clear hK K
        try simp only [Act.put, List.setIfInBounds_toArray, List.set_cons_zero, List.set_cons_succ]
        refine wpAnyH_take (i := 10) (oi := { dst := some 41, op := Op.binOp BinOp.eql 9 (Operand.tmp 37) (Operand.tmp 40) 9, type := 4, pos := "law.go:47", after := #[{ on := 6, ground := Ground.data }, { on := 9, ground := Ground.data }, { on := 2, ground := Ground.guard }], guard := some (2, false) }) (v := ?v45x13) rfl (by kernel_rfl) (by kernel_rfl) (by kernel_rfl) (fun _ _ _ h => h) (Or.inl ⟨by rfl, ?y45x13⟩) hn ?r45x13
        case y45x13 => (intro wS hS; (try go_simp); (try with_reducible rfl))
        try simp only [Act.put, List.setIfInBounds_toArray, List.set_cons_zero, List.set_cons_succ]
        refine wpAnyH_take (i := 11) (oi := { dst := some 42, op := Op.pick (Operand.tmp 33) (Operand.const (Value.bool true)) (Operand.tmp 41), type := 4, pos := "law.go:47", after := #[{ on := 2, ground := Ground.data }, { on := 10, ground := Ground.data }], guard := none }) (v := ?v45x14) rfl (by kernel_rfl) (by kernel_rfl) (by kernel_rfl) (fun _ _ _ h => h) (Or.inl ⟨by rfl, ?y45x14⟩) hn ?r45x14
        case y45x14 => (intro wS hS; (try go_simp); (try with_reducible rfl))
        try simp only [Act.put, List.setIfInBounds_toArray, List.set_cons_zero, List.set_cons_succ]
        refine wpAnyH_take (i := 12) (oi := { dst := some 43, op := Op.move (Operand.tmp 42), type := 4, pos := "law.go:47", after := #[{ on := 11, ground := Ground.data }, { on := 8, ground := Ground.chain }], guard := none }) (v := ?v45x15) rfl (by kernel_rfl) (by kernel_rfl) (by kernel_rfl) (fun _ _ _ h => h) (Or.inl ⟨by rfl, ?y45x15⟩) hn ?r45x15
        case y45x15 => (intro wS hS; (try go_simp); (try with_reducible rfl))
        try simp only [Act.put, List.setIfInBounds_toArray, List.set_cons_zero, List.set_cons_succ]
        refine wpAnyH_ready (rs := [13]) (by kernel_rfl) (by simp) ?_
        refine AllReadyH.cons (o := { dst := some 44, op := Op.call { callee := Callee.value (Operand.func 13), args := #[], argTypes := #[] }, type := 4, pos := "law.go:47", after := #[{ on := 12, ground := Ground.chain }, { on := 12, ground := Ground.guard }], guard := some (12, true) }) rfl (fun K hK => ?_) AllReadyH.nil
        go_simp
        refine (hAW.out _).mono ?_
        rintro e wq ⟨rfl, hnq⟩
        go_wp2_with fail
        have hn := hn.new hnq
        refine hK.out _ _ (by first | exact hn | exact Upd.alloc hn _) (fun hn => ?_)
        clear hK K
        try simp only [Act.put, List.setIfInBounds_toArray, List.set_cons_zero, List.set_cons_succ]
        refine wpAnyH_take (i := 14) (oi := { dst := some 45, op := Op.pick (Operand.tmp 43) (Operand.tmp 44) (Operand.const (Value.bool false)), type := 4, pos := "law.go:47", after := #[{ on := 12, ground := Ground.data }, { on := 13, ground := Ground.data }], guard := none }) (v := ?v45x16) rfl (by kernel_rfl) (by kernel_rfl) (by kernel_rfl) (fun _ _ _ h => h) (Or.inl ⟨by rfl, ?y45x16⟩) hn ?r45x16
        case y45x16 => (intro wS hS; (try go_simp); (try with_reducible rfl))
        try simp only [Act.put, List.setIfInBounds_toArray, List.set_cons_zero, List.set_cons_succ]
        refine wpAnyH_take (i := 15) (oi := { dst := some 4, op := Op.assign (Operand.tmp 45), type := 4, pos := "law.go:47", after := #[{ on := 14, ground := Ground.data }, { on := 13, ground := Ground.chain }, { on := 0, ground := Ground.phase }, { on := 1, ground := Ground.phase }, { on := 2, ground := Ground.phase }, { on := 3, ground := Ground.phase }, { on := 4, ground := Ground.phase }, { on := 5, ground := Ground.phase }, { on := 6, ground := Ground.phase }, { on := 7, ground := Ground.phase }, { on := 8, ground := Ground.phase }, { on := 9, ground := Ground.phase }, { on := 10, ground := Ground.phase }, { on := 11, ground := Ground.phase }, { on := 12, ground := Ground.phase }, { on := 13, ground := Ground.phase }, { on := 14, ground := Ground.phase }], guard := none }) (v := ?v45x17) rfl (by kernel_rfl) (by kernel_rfl) (by kernel_rfl) (fun _ _ _ h => h) (Or.inl ⟨by rfl, ?y45x17⟩) hn ?r45x17
        case y45x17 => (intro wS hS; (try go_simp); (try with_reducible rfl))
        try simp only [Act.put, List.setIfInBounds_toArray, List.set_cons_zero, List.set_cons_succ]
        refine wpAnyH_done (by kernel_rfl) ?_ _
        refine NoPanic.normal ?_
        go_wp2_with fail
        go_ret
        exact ⟨rfl, New.trans HN.out hn.1.1⟩
end Go.Proofs.Ytnngibflnnmioaa
