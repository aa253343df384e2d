/-
  NamesPuts, walked.
-/
import Derived.Test.YtnngibflnnmioaaNml
import Derived.Test.YtnngibflnnmioaaNmf
import Derived.Test.YtnngibflnnmioaaNmg
import Derived.Test.YtnngibflnnmioaaNmh
import Derived.Test.YtnngibflnnmioaaNmi
namespace Go.Proofs.Ytnngibflnnmioaa
open Go.RowKit Go.Proofs.Leb Go.Proofs.Own
set_option maxRecDepth 100000
set_option maxHeartbeats 8000000

theorem load_row {P : Program} {o : Oper} {a : Act} {w : World} {ty : TypeId} {x : Operand} {g : Nat} {t : TypeId} {cs : Array Value} {d : TypeDesc} (ho : o.op = .load ty x)
    (hx : a.eval x = .pointer (some ⟨g, 0, none⟩)) (hg : w.heap[g]? = some (.cells cs t))
    (hu : P.underlying ty = some d) (hd : (match d with | .struct _ | .array _ _ => true | _ => false) = true) (hi : (P.info? ty).map (·.size) = some cs.size) :
    (execOp a.eval o).run P w = .ok (.value (.agg cs)) w := by
  unfold execOp
  simp only [ho, hx, Instr.loadAt, Instr.sureAddr, Sem.run_bind, Sem.run_pure, Result.andThen_ok, run_loadVar_row w g t ty cs (0, 0) d hg hu hd hi]
theorem same_mk {q : Prop} {b : Bool} (hb : b = true ↔ q) {w : World} {e : Ending} {w' : World} (h : SameP q w e w') : IsNew b w e w' := by
  obtain ⟨c, rfl, hc, hn⟩ := h
  have : c = b := by
    cases c <;> cases b <;> simp_all
  subst this
  exact ⟨rfl, hn⟩
theorem since_ne {a b : World} {g : Nat} {o : Obj} (hz : a.heap[g]? = some o) : ∀ k, Since a b k → k ≠ g := fun k hk e => by
  have h1 := (Array.getElem?_eq_some_iff.1 hz).1
  have h2 := hk.1
  omega
/-- names' memory, on the program's side -/
def LN (N : Nms) (f l : Value) (B : Nat → Prop) (w : World) : Prop := RdE 2 (E2 FN) w B f N.fs ∧ RdE 2 (E2 FL) w B l N.ls ∧ ∀ k, B k → k < w.heap.size
theorem LN.upd {S : Nat → Prop} {N : Nms} {f l : Value} {B : Nat → Prop} {a b : World} (h : LN N f l B a) (k : Upd S a b) (h1 : ∀ i, B i → ¬ S i) : LN N f l B b :=
  ⟨h.1.upd (E2.ok FN.ok) k h1, h.2.1.upd (E2.ok FL.ok) k h1, fun i hi => Nat.lt_of_lt_of_le (h.2.2 i hi) k.size⟩
theorem LN.new {N : Nms} {f l : Value} {B : Nat → Prop} {a b : World} (h : LN N f l B a) (k : New a b) : LN N f l B b := h.upd k (fun _ _ h => h)
def OwnL (N : Nms) (w : World) (e : Ending) (w' : World) : Prop :=
  ∃ af cf al cl, e = .returned (.agg #[.bool N.hm, .bool N.hf, .bool N.hl, .string N.md, .slice af N.fs.length cf, .slice al N.ls.length cl]) ∧ LN N (.slice af N.fs.length cf) (.slice al N.ls.length cl) (Since w w') w' ∧ New w w'
theorem OwnNP.l {N : Nms} {w : World} {e : Ending} {w' : World} (h : OwnNP N w e w') : OwnL N w e w' := by
  obtain ⟨f', l', rfl, h1, h2, hn⟩ := h
  obtain ⟨af, cf, rfl⟩ := h1.shape
  obtain ⟨al, cl, rfl⟩ := h2.shape
  exact ⟨af, cf, al, cl, rfl, ⟨h1, h2, fun k hk => hk.2⟩, hn⟩
theorem LN.ne {N : Nms} {f l : Value} {B : Nat → Prop} {a : World} (h : LN N f l B a) : ∀ k, B k → k ≠ a.heap.size := fun k hk e => by have := h.2.2 k hk; omega
/-- the two boxed names -/
def TwoN (w2 : World) (g : Nat) (N O : Nms) (f l fo lo : Value) (w' : World) : Prop := New w2 w' ∧ NBox w' g N f l 45 ∧ NBox w' (g + 1) O fo lo 45
theorem TwoN.new {w2 : World} {g : Nat} {N O : Nms} {f l fo lo : Value} {a b : World} (h : TwoN w2 g N O f l fo lo a) (k : New a b) : TwoN w2 g N O f l fo lo b := ⟨New.trans h.1 k, hp1 h.2.1 k, hp1 h.2.2 k⟩
theorem TwoN.set {w2 : World} {g g5 : Nat} {N O : Nms} {f l fo lo : Value} {a b : World} (h : TwoN w2 g N O f l fo lo a) (hu : Upd (fun k => k = g5) a b) (h2 : w2.heap.size ≤ g5) (hg : g + 1 < w2.heap.size) : TwoN w2 g N O f l fo lo b :=
  have hs := h.1.size
  ⟨Upd.trans h.1 hu (fun i hi e => absurd hi (by omega)), (hu.block g (by omega) (by omega)).trans h.2.1, (hu.block (g + 1) (by omega) (by omega)).trans h.2.2⟩
/-- and the program's own -/
def OwnNR (w2 : World) (g g5 : Nat) (N O : Nms) (f l fo lo f' l' : Value) (B : Nat → Prop) (w' : World) : Prop :=
  TwoN w2 g N O f l fo lo w' ∧ NBox w' g5 N f' l' 50 ∧ LN N f' l' B w'
theorem OwnNR.new {w2 : World} {g g5 : Nat} {N O : Nms} {f l fo lo f' l' : Value} {B : Nat → Prop} {a b : World} (h : OwnNR w2 g g5 N O f l fo lo f' l' B a) (k : New a b) : OwnNR w2 g g5 N O f l fo lo f' l' B b :=
  ⟨h.1.new k, hp1 h.2.1 k, h.2.2.new k⟩
/-- indexes are numbers of 32 bits -/
def U32 (N : Nms) : Prop := (∀ x ∈ N.fs, x.1 < 4294967296) ∧ ∀ x ∈ N.ls, x.1 < 4294967296 ∧ ∀ y ∈ x.2, y.1 < 4294967296
theorem FitN.sz {N : Nms} (h : FitN N) : Sz N :=
  ⟨by have := h.1; omega, ⟨by have := h.2.1.1; omega, fun x hx => by have := h.2.1.2 x hx; omega⟩, by have := h.2.2.1; omega, fun x hx => ⟨by have := (h.2.2.2 x hx).1; omega, fun y hy => by have := (h.2.2.2 x hx).2 y hy; omega⟩⟩
theorem FitN.pz {N : Nms} (h : FitN N) (hu : U32 N) : Pz N :=
  ⟨h.1, ⟨h.2.1.1, fun x hx => ⟨hu.1 x hx, h.2.1.2 x hx⟩⟩, h.2.2.1, fun x hx => ⟨(hu.2 x hx).1, (h.2.2.2 x hx).1, fun y hy => ⟨(hu.2 x hx).2 y hy, (h.2.2.2 x hx).2 y hy⟩⟩⟩

theorem namesPuts_walk {B : Nat → Prop} (N0 O0 : Nms) (f l fo lo : Value) (w : World) (hr : Rch N0) (hro : Rch O0) (hu : U32 N0)
    (h1 : RdE 2 (E2 FN) w B f N0.fs) (h2 : RdE 2 (E2 FL) w B l N0.ls) (h3 : RdE 2 (E2 FN) w B fo O0.fs) (h4 : RdE 2 (E2 FL) w B lo O0.ls) :
    Calls Try.prog 4 #[nv N0 f l, nv O0 fo lo] w (True' w) := by
  obtain ⟨may, hmay⟩ := boolOf (NsRight N0)
  obtain ⟨bS, hbS⟩ := boolOf (N0 = O0)
  have HG1 := hid (fun w' (hn : New w w') => great14_any N0 f l w' (h1.new (E2.ok FN.ok) hn) (h2.new (E2.ok FL.ok) hn) hr)
  have HG2 := hid (fun w' (hn : New w w') => great14_any O0 fo lo w' (h3.new (E2.ok FN.ok) hn) (h4.new (E2.ok FL.ok) hn) hro)
  have HPR : Hid (FitN N0 → ∀ f' l' B' w', LN N0 f' l' B' w' → Calls Try.prog 18 #[nv N0 f' l'] w' (IsNew may w')) := fun ht f' l' B' w' h => (nsRight_any N0 f' l' w' h.1 h.2.1 ht.sz).mono fun _ _ h => same_mk hmay h
  have HRR : Hid (FitN N0 → ∀ w', New w w' → Calls Try.prog 16 #[nv N0 f l] w' (IsNew may w')) := fun ht w' hn => (rNsRight_any N0 f l w' (h1.new (E2.ok FN.ok) hn) (h2.new (E2.ok FL.ok) hn) ht.sz).mono fun _ _ h => same_mk hmay h
  have HPS : Hid (FitN N0 → FitN O0 → ∀ f' l' f2 l2 B' B2 w', LN N0 f' l' B' w' → LN O0 f2 l2 B2 w' → Calls Try.prog 19 #[nv N0 f' l', nv O0 f2 l2] w' (IsNew bS w')) := fun ht ht2 f' l' f2 l2 B' B2 w' h hk => (nsSame_any N0 O0 f' l' f2 l2 w' h.1 h.2.1 hk.1 hk.2.1 ht.sz ht2.sz).mono fun _ _ h => same_mk hbS h
  have HRS : Hid (FitN N0 → FitN O0 → ∀ w', New w w' → Calls Try.prog 20 #[nv N0 f l, nv O0 fo lo] w' (IsNew bS w')) := fun ht ht2 w' hn => (rNsSame_any N0 O0 f l fo lo w' (h1.new (E2.ok FN.ok) hn) (h2.new (E2.ok FL.ok) hn) (h3.new (E2.ok FN.ok) hn) (h4.new (E2.ok FL.ok) hn) ht.sz ht2.sz).mono fun _ _ h => same_mk hbS h
  have HOW1 : Hid (FitN N0 → ∀ w', New w w' → Calls Try.prog 15 #[nv N0 f l] w' (OwnL N0 w')) := fun ht w' hn => (own14_any N0 f l w' (h1.new (E2.ok FN.ok) hn) (h2.new (E2.ok FL.ok) hn) ht.sz).mono fun _ _ h => h.l
  have HOW2 : Hid (FitN O0 → ∀ w', New w w' → Calls Try.prog 15 #[nv O0 fo lo] w' (OwnL O0 w')) := fun ht w' hn => (own14_any O0 fo lo w' (h3.new (E2.ok FN.ok) hn) (h4.new (E2.ok FL.ok) hn) ht.sz).mono fun _ _ h => h.l
  have HPP : Hid (FitN N0 → ∀ f' l' B' w', LN N0 f' l' B' w' → Calls Try.prog 17 #[nv N0 f' l'] w' (PutP N0 w')) := fun ht f' l' B' w' h => nsPut_any N0 f' l' w' h.2.2 h.1 h.2.1 ht.sz (ht.pz hu)
  have HRP : Hid (FitN N0 → ∀ w', New w w' → Calls Try.prog 22 #[nv N0 f l, .int .i64 0] w' (Says (nsB N0) w')) := fun ht w' hn => rNsPut_any N0 f l w' (h1.new (E2.ok FN.ok) hn) (h2.new (E2.ok FL.ok) hn) (ht.pz hu)
  obtain ⟨a1, c1, rfl⟩ := h1.shape
  obtain ⟨a2, c2, rfl⟩ := h2.shape
  obtain ⟨a3, c3, rfl⟩ := h3.shape
  obtain ⟨a4, c4, rfl⟩ := h4.shape
  obtain ⟨w2, hw2⟩ : ∃ w2, (w.alloc (.cells #[.bool N0.hm, .bool N0.hf, .bool N0.hl, .string N0.md, .slice a1 N0.fs.length c1, .slice a2 N0.ls.length c2] 45)).alloc (.cells #[.bool O0.hm, .bool O0.hf, .bool O0.hl, .string O0.md, .slice a3 O0.fs.length c3, .slice a4 O0.ls.length c4] 45) = w2 := ⟨_, rfl⟩
  have HN : Hid (New w w2) := by show New _ _; rw [← hw2]; exact ((Upd.refl _ _).alloc _).alloc _
  have HT : Hid (TwoN w2 w.heap.size N0 O0 (.slice a1 N0.fs.length c1) (.slice a2 N0.ls.length c2) (.slice a3 O0.fs.length c3) (.slice a4 O0.ls.length c4) w2) := by
    show TwoN _ _ _ _ _ _ _ _ _
    rw [← hw2]
    exact ⟨Upd.refl _ _, hp_old (by simp) (hp_new rfl), hp_new (by simp)⟩
  have HGG : Hid (w.heap.size + 1 < w2.heap.size) := by show _ < _; rw [← hw2]; simp
  obtain ⟨hm, hf, hl, md, fs, ls⟩ := N0
  obtain ⟨hm', hf', hl', md', fs', ls'⟩ := O0
  have HMAY := hid hmay
  clear h1 h2 h3 h4 hr hro hu hmay hbS
  have HW := hid hw2
  clear hw2
  unfold nv OwnL at *
  simp only at HW HT HPR HRR HPS HRS HOW1 HOW2 HPP HRP HG1 HG2
  simp only
  go_enter Try.func4, Try.ntmps4
  go_wp2_with fail
  rw [HW.out]
  clear HW
  refine (HG1.out w2 HN.out).mono ?_
  rintro e w3 ⟨bG, rfl, hfit, hn⟩
  have HT3 := hid (HT.out.new hn)
  have HF1 := hid hfit
  clear hn HT HG1 hfit
  obtain ⟨z0, z1, z2, z3, z4, z5⟩ := NBox.cs HT3.out.2.2
  simp only at z0 z1 z2 z3 z4 z5
  cases bG with
  | true =>
    go_wp2_with fail
    go_ret
    exact ⟨rfl, New.trans HN.out HT3.out.1⟩
  | false =>
  have HFT := hid (HF1.out rfl)
  clear HF1
  go_wp2_with fail
  clear z0 z1 z2 z3 z4 z5
  refine (HG2.out w3 (New.trans HN.out HT3.out.1)).mono ?_
  rintro e w4 ⟨bO, rfl, hfit, hn⟩
  have HT4 := hid (HT3.out.new hn)
  have HF2 := hid hfit
  clear hn HT3 HG2 hfit
  cases bO with
  | true =>
    go_wp2_with fail
    go_ret
    exact ⟨rfl, New.trans HN.out HT4.out.1⟩
  | false =>
  have HFT2 := hid (HF2.out rfl)
  clear HF2
  have HN2 : Hid (∀ w', TwoN w2 w.heap.size ⟨hm, hf, hl, md, fs, ls⟩ ⟨hm', hf', hl', md', fs', ls'⟩ (.slice a1 fs.length c1) (.slice a2 ls.length c2) (.slice a3 fs'.length c3) (.slice a4 ls'.length c4) w' → New w w') := fun w' h => New.trans HN.out h.1
  go_upto_region 3 with fail
  generalize Value.agg #[.bool hm, .bool hf, .bool hl, .string md, .slice a1 fs.length c1, .slice a2 ls.length c2] = A0
  generalize Value.agg #[.bool hm', .bool hf', .bool hl', .string md', .slice a3 fs'.length c3, .slice a4 ls'.length c4] = A1
  go_cut [5, 6] (fun a b wx => ∃ (g5 : Nat) (af : Option Addr) (cf : Nat) (al : Option Addr) (cl : Nat) (B' : Nat → Prop), a = .pointer (some ⟨g5, 0, none⟩) ∧ b = .bool may ∧ OwnNR w2 w.heap.size g5 ⟨hm, hf, hl, md, fs, ls⟩ ⟨hm', hf', hl', md', fs', ls'⟩ (.slice a1 fs.length c1) (.slice a2 ls.length c2) (.slice a3 fs'.length c3) (.slice a4 ls'.length c4) (.slice af fs.length cf) (.slice al ls.length cl) B' wx)
  case first =>
    have hn : TwoN w2 w.heap.size ⟨hm, hf, hl, md, fs, ls⟩ ⟨hm', hf', hl', md', fs', ls'⟩ (.slice a1 fs.length c1) (.slice a2 ls.length c2) (.slice a3 fs'.length c3) (.slice a4 ls'.length c4) w4.drew := HT4.out.new (Upd.refl _ _).drew
    refine wp_region_noPanic ?_
    refine wp_region_held_drew (S := (TwoN w2 w.heap.size ⟨hm, hf, hl, md, fs, ls⟩ ⟨hm', hf', hl', md', fs', ls'⟩ (.slice a1 fs.length c1) (.slice a2 ls.length c2) (.slice a3 fs'.length c3) (.slice a4 ls'.length c4))) (by kernel_rfl) (by first | exact hn | exact (Upd.refl _ _).drew | exact Upd.drew (by assumption)) (fun hn => ?_)
    generalize w4.drew = wd at *
    refine wpAnyH_take (i := 0) (oi := { dst := some 15, op := Op.load 45 (Operand.tmp 2), type := 45, pos := "law.go:76", after := #[], guard := none }) (v := ?v65x1) rfl (by kernel_rfl) (by kernel_rfl) (by kernel_rfl) (fun _ _ _ h => h) (Or.inl ⟨by rfl, ?y65x1⟩) hn ?r65x1
    case y65x1 => (intro wS hS; refine load_row (x := .tmp 2) ?_ ?_ hS.2.1 Try.underlying45 rfl infoRNs; rfl; rfl; (try go_simp); (try with_reducible rfl))
    try simp only [Act.put, List.setIfInBounds_toArray, List.set_cons_zero, List.set_cons_succ]
    refine wpAnyH_take (i := 2) (oi := { dst := some 17, op := Op.load 45 (Operand.tmp 2), type := 45, pos := "law.go:76", after := #[], guard := none }) (v := ?v65x2) rfl (by kernel_rfl) (by kernel_rfl) (by kernel_rfl) (fun _ _ _ h => h) (Or.inl ⟨by rfl, ?y65x2⟩) hn ?r65x2
    case y65x2 => (intro wS hS; refine load_row (x := .tmp 2) ?_ ?_ hS.2.1 Try.underlying45 rfl infoRNs; rfl; rfl; (try go_simp); (try with_reducible rfl))
    try simp only [Act.put, List.setIfInBounds_toArray, List.set_cons_zero, List.set_cons_succ]
    refine wpAnyH_ready (rs := [1, 4]) (by kernel_rfl) (by simp) ?_
    refine AllReadyH.cons (o := { dst := some 16, op := Op.call { callee := Callee.value (Operand.func 15), args := #[Operand.tmp 15], argTypes := #[45] }, type := 50, pos := "law.go:76", after := #[{ on := 0, ground := Ground.data }], guard := none }) rfl (fun K hK => ?_) ?_
    · skip
      go_simp
      refine (HOW1.out HFT.out _ (HN2.out _ hn)).mono ?_
      rintro e wq ⟨af, cf, al, cl, rfl, hlu, hnq⟩
      go_wp2_with fail
      have hn := hn.new hnq
      refine hK.out _ _ (by first | exact hn | exact Upd.alloc hn _) (fun hn => ?_)
      clear hK K
      try simp only [Act.put, List.setIfInBounds_toArray, List.set_cons_zero, List.set_cons_succ]
      refine wpAnyH_ready (rs := [3, 4]) (by kernel_rfl) (by simp) ?_
      refine AllReadyH.cons (o := { dst := some 18, op := Op.call { callee := Callee.value (Operand.func 16), args := #[Operand.tmp 17], argTypes := #[45] }, type := 4, pos := "law.go:76", after := #[{ on := 2, ground := Ground.data }, { on := 1, ground := Ground.chain }], guard := none }) rfl (fun K hK => ?_) ?_
      · skip
        go_simp
        refine (HRR.out HFT.out _ (HN2.out _ hn)).mono ?_
        rintro e wr ⟨rfl, hnq⟩
        go_wp2_with fail
        have hn := hn.new hnq
        (try have hlu := hlu.new hnq)
        (try have hz := hp1 hz hnq)
        refine hK.out _ _ (by first | exact hn | exact Upd.alloc hn _) (fun hn => ?_)
        clear hK K
        try simp only [Act.put, List.setIfInBounds_toArray, List.set_cons_zero, List.set_cons_succ]
        refine wpAnyH_ready (rs := [4]) (by kernel_rfl) (by simp) ?_
        refine AllReadyH.cons (o := { dst := some 5, op := Op.alloc 50, type := 0, pos := "law.go:76", after := #[], guard := none }) rfl (fun K hK => ?_) AllReadyH.nil
        go_simp
        refine boxStp ?_
        intro ws hnq hz
        have hg5 := hn.1.size
        have hap := hlu.ne
        have hn := hn.new hnq
        have hlu := hlu.new hnq
        refine hK.out _ _ (by first | exact hn | exact Upd.alloc hn _) (fun hn => ?_)
        clear hK K
        try simp only [Act.put, List.setIfInBounds_toArray, List.set_cons_zero, List.set_cons_succ]
        refine wpAnyH_ready (rs := [5]) (by kernel_rfl) (by simp) ?_
        refine AllReadyH.cons (o := { dst := none, op := Op.store 50 (Operand.tmp 5) (Operand.tmp 16), type := 0, pos := "law.go:76", after := #[{ on := 4, ground := Ground.data }, { on := 1, ground := Ground.data }, { on := 3, ground := Ground.chain }, { on := 0, ground := Ground.phase }, { on := 1, ground := Ground.phase }, { on := 2, ground := Ground.textOnly Departure.lateStores }, { on := 3, ground := Ground.textOnly Departure.lateStoresUnsure }, { on := 4, ground := Ground.phase }], guard := none }) rfl (fun K hK => ?_) AllReadyH.nil
        refine step_store_row 50 _ _ rfl rfl _ #[.bool hm, .bool hf, .bool hl, .string md, .slice af fs.length cf, .slice al ls.length cl] rfl rfl 50 _ hz infoNs rfl (by simp [Value.oneCell']) ?_
        obtain ⟨hus, hbs⟩ := run_setRow (cs := #[.bool hm, .bool hf, .bool hl, .string md, .slice af fs.length cf, .slice al ls.length cl]) hz
        have hn := hn.set hus hg5 HGG.out
        have hlu := hlu.upd hus hap
        clear hus
        refine hK.out _ _ (by first | exact hn | exact Upd.alloc hn _) (fun hn => ?_)
        clear hK K
        try simp only [Act.put, List.setIfInBounds_toArray, List.set_cons_zero, List.set_cons_succ]
        refine wpAnyH_take (i := 6) (oi := { dst := some 6, op := Op.assign (Operand.tmp 18), type := 4, pos := "law.go:76", after := #[{ on := 3, ground := Ground.data }, { on := 5, ground := Ground.chain }, { on := 0, ground := Ground.phase }, { on := 1, ground := Ground.phase }, { on := 2, ground := Ground.phase }, { on := 3, ground := Ground.phase }, { on := 4, ground := Ground.phase }, { on := 5, ground := Ground.phase }], guard := none }) (v := ?v65x3) rfl (by kernel_rfl) (by kernel_rfl) (by kernel_rfl) (fun _ _ _ h => h) (Or.inl ⟨by rfl, ?y65x3⟩) hn ?r65x3
        case y65x3 => (intro wS hS; (try go_simp); (try with_reducible rfl))
        try simp only [Act.put, List.setIfInBounds_toArray, List.set_cons_zero, List.set_cons_succ]
        refine wpAnyH_done (by kernel_rfl) ?_ _
        refine NoPanic.normal ?_
        go_wp2_with fail
        go_meet
        exact ⟨_, _, _, _, _, _, rfl, rfl, hn, hbs, hlu⟩
      refine AllReadyH.cons (o := { dst := some 5, op := Op.alloc 50, type := 0, pos := "law.go:76", after := #[], guard := none }) rfl (fun K hK => ?_) AllReadyH.nil
      go_simp
      refine boxStp ?_
      intro ws hnq hz
      have hg5 := hn.1.size
      have hap := hlu.ne
      have hn := hn.new hnq
      have hlu := hlu.new hnq
      refine hK.out _ _ (by first | exact hn | exact Upd.alloc hn _) (fun hn => ?_)
      clear hK K
      try simp only [Act.put, List.setIfInBounds_toArray, List.set_cons_zero, List.set_cons_succ]
      refine wpAnyH_ready (rs := [3]) (by kernel_rfl) (by simp) ?_
      refine AllReadyH.cons (o := { dst := some 18, op := Op.call { callee := Callee.value (Operand.func 16), args := #[Operand.tmp 17], argTypes := #[45] }, type := 4, pos := "law.go:76", after := #[{ on := 2, ground := Ground.data }, { on := 1, ground := Ground.chain }], guard := none }) rfl (fun K hK => ?_) AllReadyH.nil
      go_simp
      refine (HRR.out HFT.out _ (HN2.out _ hn)).mono ?_
      rintro e wr ⟨rfl, hnq⟩
      go_wp2_with fail
      have hn := hn.new hnq
      (try have hlu := hlu.new hnq)
      (try have hz := hp1 hz hnq)
      refine hK.out _ _ (by first | exact hn | exact Upd.alloc hn _) (fun hn => ?_)
      clear hK K
      try simp only [Act.put, List.setIfInBounds_toArray, List.set_cons_zero, List.set_cons_succ]
      refine wpAnyH_ready (rs := [5]) (by kernel_rfl) (by simp) ?_
      refine AllReadyH.cons (o := { dst := none, op := Op.store 50 (Operand.tmp 5) (Operand.tmp 16), type := 0, pos := "law.go:76", after := #[{ on := 4, ground := Ground.data }, { on := 1, ground := Ground.data }, { on := 3, ground := Ground.chain }, { on := 0, ground := Ground.phase }, { on := 1, ground := Ground.phase }, { on := 2, ground := Ground.textOnly Departure.lateStores }, { on := 3, ground := Ground.textOnly Departure.lateStoresUnsure }, { on := 4, ground := Ground.phase }], guard := none }) rfl (fun K hK => ?_) AllReadyH.nil
      refine step_store_row 50 _ _ rfl rfl _ #[.bool hm, .bool hf, .bool hl, .string md, .slice af fs.length cf, .slice al ls.length cl] rfl rfl 50 _ hz infoNs rfl (by simp [Value.oneCell']) ?_
      obtain ⟨hus, hbs⟩ := run_setRow (cs := #[.bool hm, .bool hf, .bool hl, .string md, .slice af fs.length cf, .slice al ls.length cl]) hz
      have hn := hn.set hus hg5 HGG.out
      have hlu := hlu.upd hus hap
      clear hus
      refine hK.out _ _ (by first | exact hn | exact Upd.alloc hn _) (fun hn => ?_)
      clear hK K
      try simp only [Act.put, List.setIfInBounds_toArray, List.set_cons_zero, List.set_cons_succ]
      refine wpAnyH_take (i := 6) (oi := { dst := some 6, op := Op.assign (Operand.tmp 18), type := 4, pos := "law.go:76", after := #[{ on := 3, ground := Ground.data }, { on := 5, ground := Ground.chain }, { on := 0, ground := Ground.phase }, { on := 1, ground := Ground.phase }, { on := 2, ground := Ground.phase }, { on := 3, ground := Ground.phase }, { on := 4, ground := Ground.phase }, { on := 5, ground := Ground.phase }], guard := none }) (v := ?v65x4) rfl (by kernel_rfl) (by kernel_rfl) (by kernel_rfl) (fun _ _ _ h => h) (Or.inl ⟨by rfl, ?y65x4⟩) hn ?r65x4
      case y65x4 => (intro wS hS; (try go_simp); (try with_reducible rfl))
      try simp only [Act.put, List.setIfInBounds_toArray, List.set_cons_zero, List.set_cons_succ]
      refine wpAnyH_done (by kernel_rfl) ?_ _
      refine NoPanic.normal ?_
      go_wp2_with fail
      go_meet
      exact ⟨_, _, _, _, _, _, rfl, rfl, hn, hbs, hlu⟩
    refine AllReadyH.cons (o := { dst := some 5, op := Op.alloc 50, type := 0, pos := "law.go:76", after := #[], guard := none }) rfl (fun K hK => ?_) AllReadyH.nil
    go_simp
    refine boxStp ?_
    intro ws hnq hz
    have hg5 := hn.1.size
    have hn := hn.new hnq
    refine hK.out _ _ (by first | exact hn | exact Upd.alloc hn _) (fun hn => ?_)
    clear hK K
    try simp only [Act.put, List.setIfInBounds_toArray, List.set_cons_zero, List.set_cons_succ]
    refine wpAnyH_ready (rs := [1]) (by kernel_rfl) (by simp) ?_
    refine AllReadyH.cons (o := { dst := some 16, op := Op.call { callee := Callee.value (Operand.func 15), args := #[Operand.tmp 15], argTypes := #[45] }, type := 50, pos := "law.go:76", after := #[{ on := 0, ground := Ground.data }], guard := none }) rfl (fun K hK => ?_) AllReadyH.nil
    go_simp
    refine (HOW1.out HFT.out _ (HN2.out _ hn)).mono ?_
    rintro e wq ⟨af, cf, al, cl, rfl, hlu, hnq⟩
    go_wp2_with fail
    have hap := since_ne (b := wq) hz
    have hz := hp1 hz hnq
    have hn := hn.new hnq
    refine hK.out _ _ (by first | exact hn | exact Upd.alloc hn _) (fun hn => ?_)
    clear hK K
    try simp only [Act.put, List.setIfInBounds_toArray, List.set_cons_zero, List.set_cons_succ]
    refine wpAnyH_ready (rs := [3]) (by kernel_rfl) (by simp) ?_
    refine AllReadyH.cons (o := { dst := some 18, op := Op.call { callee := Callee.value (Operand.func 16), args := #[Operand.tmp 17], argTypes := #[45] }, type := 4, pos := "law.go:76", after := #[{ on := 2, ground := Ground.data }, { on := 1, ground := Ground.chain }], guard := none }) rfl (fun K hK => ?_) AllReadyH.nil
    go_simp
    refine (HRR.out HFT.out _ (HN2.out _ hn)).mono ?_
    rintro e wr ⟨rfl, hnq⟩
    go_wp2_with fail
    have hn := hn.new hnq
    (try have hlu := hlu.new hnq)
    (try have hz := hp1 hz hnq)
    refine hK.out _ _ (by first | exact hn | exact Upd.alloc hn _) (fun hn => ?_)
    clear hK K
    try simp only [Act.put, List.setIfInBounds_toArray, List.set_cons_zero, List.set_cons_succ]
    refine wpAnyH_ready (rs := [5]) (by kernel_rfl) (by simp) ?_
    refine AllReadyH.cons (o := { dst := none, op := Op.store 50 (Operand.tmp 5) (Operand.tmp 16), type := 0, pos := "law.go:76", after := #[{ on := 4, ground := Ground.data }, { on := 1, ground := Ground.data }, { on := 3, ground := Ground.chain }, { on := 0, ground := Ground.phase }, { on := 1, ground := Ground.phase }, { on := 2, ground := Ground.textOnly Departure.lateStores }, { on := 3, ground := Ground.textOnly Departure.lateStoresUnsure }, { on := 4, ground := Ground.phase }], guard := none }) rfl (fun K hK => ?_) AllReadyH.nil
    refine step_store_row 50 _ _ rfl rfl _ #[.bool hm, .bool hf, .bool hl, .string md, .slice af fs.length cf, .slice al ls.length cl] rfl rfl 50 _ hz infoNs rfl (by simp [Value.oneCell']) ?_
    obtain ⟨hus, hbs⟩ := run_setRow (cs := #[.bool hm, .bool hf, .bool hl, .string md, .slice af fs.length cf, .slice al ls.length cl]) hz
    have hn := hn.set hus hg5 HGG.out
    have hlu := hlu.upd hus hap
    clear hus
    refine hK.out _ _ (by first | exact hn | exact Upd.alloc hn _) (fun hn => ?_)
    clear hK K
    try simp only [Act.put, List.setIfInBounds_toArray, List.set_cons_zero, List.set_cons_succ]
    refine wpAnyH_take (i := 6) (oi := { dst := some 6, op := Op.assign (Operand.tmp 18), type := 4, pos := "law.go:76", after := #[{ on := 3, ground := Ground.data }, { on := 5, ground := Ground.chain }, { on := 0, ground := Ground.phase }, { on := 1, ground := Ground.phase }, { on := 2, ground := Ground.phase }, { on := 3, ground := Ground.phase }, { on := 4, ground := Ground.phase }, { on := 5, ground := Ground.phase }], guard := none }) (v := ?v65x5) rfl (by kernel_rfl) (by kernel_rfl) (by kernel_rfl) (fun _ _ _ h => h) (Or.inl ⟨by rfl, ?y65x5⟩) hn ?r65x5
    case y65x5 => (intro wS hS; (try go_simp); (try with_reducible rfl))
    try simp only [Act.put, List.setIfInBounds_toArray, List.set_cons_zero, List.set_cons_succ]
    refine wpAnyH_done (by kernel_rfl) ?_ _
    refine NoPanic.normal ?_
    go_wp2_with fail
    go_meet
    exact ⟨_, _, _, _, _, _, rfl, rfl, hn, hbs, hlu⟩
  case rest =>
  obtain ⟨g5, af, cf, al, cl, B', rfl, rfl, hcur⟩ := hcut
  obtain ⟨w5, rfl⟩ : ∃ w5, w5 = wc := ⟨_, rfl⟩
  have HC5 := hid hcur
  clear hcur HT4 HOW1 HRR
  obtain ⟨z0, z1, z2, z3, z4, z5⟩ := NBox.cs HC5.out.2.1
  simp only at z0 z1 z2 z3 z4 z5
  go_upto_region 4 with fail
  go_cut [7, 8] (fun a b wx => ∃ (s : ByteArray) (n : Int), a = .string s ∧ b = .int .i64 n ∧ (may = true → s = ⟨(nsB ⟨hm, hf, hl, md, fs, ls⟩).toArray⟩ ∧ n = 0) ∧ (may = false → s = ⟨#[]⟩ ∧ n = 3) ∧ OwnNR w2 w.heap.size g5 ⟨hm, hf, hl, md, fs, ls⟩ ⟨hm', hf', hl', md', fs', ls'⟩ (.slice a1 fs.length c1) (.slice a2 ls.length c2) (.slice a3 fs'.length c3) (.slice a4 ls'.length c4) (.slice af fs.length cf) (.slice al ls.length cl) B' wx)
  case first =>
    go_wp2_with fail
    refine (HPP.out HFT.out _ _ _ _ HC5.out.2.2).mono ?_
    rintro e w6 ⟨hn, ⟨hq, rfl⟩ | ⟨hq, rfl⟩⟩
    · have HN6 := hid (HC5.out.new hn)
      have HM := hid (HMAY.out.2 hq)
      clear hn z0 z1 z2 z3 z4 z5
      go_wp2_with fail
      go_meet
      exact ⟨_, _, rfl, rfl, fun _ => ⟨rfl, rfl⟩, fun h => absurd (HM.out.symm.trans h) (by decide), HN6.out⟩
    · have HN6 := hid (HC5.out.new hn)
      have HM := hid (fun h : may = true => hq (HMAY.out.1 h))
      clear hn z0 z1 z2 z3 z4 z5
      go_wp2_with fail
      go_meet
      exact ⟨_, _, rfl, rfl, fun h => absurd h HM.out, fun _ => ⟨rfl, rfl⟩, HN6.out⟩
  case rest =>
  obtain ⟨s, n, rfl, rfl, hs1, hs2, hcur⟩ := hcut
  obtain ⟨w6, rfl⟩ : ∃ w6, w6 = wc := ⟨_, rfl⟩
  have HC6 := hid hcur
  have HS1 := hid hs1
  have HS2 := hid hs2
  clear hcur HC5 HPP hs1 hs2 z0 z1 z2 z3 z4 z5
  have HN2 : Hid (∀ w', OwnNR w2 w.heap.size g5 ⟨hm, hf, hl, md, fs, ls⟩ ⟨hm', hf', hl', md', fs', ls'⟩ (.slice a1 fs.length c1) (.slice a2 ls.length c2) (.slice a3 fs'.length c3) (.slice a4 ls'.length c4) (.slice af fs.length cf) (.slice al ls.length cl) B' w' → New w w') := fun w' h => New.trans HN.out h.1.1
  go_upto_region 5 with fail
  go_cut [37] (fun a wx => a = .bool false ∧ OwnNR w2 w.heap.size g5 ⟨hm, hf, hl, md, fs, ls⟩ ⟨hm', hf', hl', md', fs', ls'⟩ (.slice a1 fs.length c1) (.slice a2 ls.length c2) (.slice a3 fs'.length c3) (.slice a4 ls'.length c4) (.slice af fs.length cf) (.slice al ls.length cl) B' wx)
  case first =>
    have hn : OwnNR w2 w.heap.size g5 ⟨hm, hf, hl, md, fs, ls⟩ ⟨hm', hf', hl', md', fs', ls'⟩ (.slice a1 fs.length c1) (.slice a2 ls.length c2) (.slice a3 fs'.length c3) (.slice a4 ls'.length c4) (.slice af fs.length cf) (.slice al ls.length cl) B' w6.drew := HC6.out.new (Upd.refl _ _).drew
    refine wp_region_noPanic ?_
    refine wp_region_held_drew (S := (OwnNR w2 w.heap.size g5 ⟨hm, hf, hl, md, fs, ls⟩ ⟨hm', hf', hl', md', fs', ls'⟩ (.slice a1 fs.length c1) (.slice a2 ls.length c2) (.slice a3 fs'.length c3) (.slice a4 ls'.length c4) (.slice af fs.length cf) (.slice al ls.length cl) B')) (by kernel_rfl) (by first | exact hn | exact (Upd.refl _ _).drew | exact Upd.drew (by assumption)) (fun hn => ?_)
    generalize w6.drew = wd at *
    refine wpAnyH_take (i := 0) (oi := { dst := some 24, op := Op.load 50 (Operand.tmp 5), type := 50, pos := "law.go:78", after := #[], guard := none }) (v := ?v66x1) rfl (by kernel_rfl) (by kernel_rfl) (by kernel_rfl) (fun _ _ _ h => h) (Or.inl ⟨by rfl, ?y66x1⟩) hn ?r66x1
    case y66x1 => (intro wS hS; refine load_row (x := .tmp 5) ?_ ?_ hS.2.1 Try.underlying50 rfl infoNs; rfl; rfl; (try go_simp); (try with_reducible rfl))
    try simp only [Act.put, List.setIfInBounds_toArray, List.set_cons_zero, List.set_cons_succ]
    refine wpAnyH_take (i := 2) (oi := { dst := some 26, op := Op.move (Operand.tmp 6), type := 4, pos := "law.go:78", after := #[], guard := none }) (v := ?v66x2) rfl (by kernel_rfl) (by kernel_rfl) (by kernel_rfl) (fun _ _ _ h => h) (Or.inl ⟨by rfl, ?y66x2⟩) hn ?r66x2
    case y66x2 => (intro wS hS; (try go_simp); (try with_reducible rfl))
    try simp only [Act.put, List.setIfInBounds_toArray, List.set_cons_zero, List.set_cons_succ]
    refine wpAnyH_ready (rs := [1]) (by kernel_rfl) (by simp) ?_
    refine AllReadyH.cons (o := { dst := some 25, op := Op.call { callee := Callee.value (Operand.func 18), args := #[Operand.tmp 24], argTypes := #[50] }, type := 4, pos := "law.go:78", after := #[{ on := 0, ground := Ground.data }], guard := none }) rfl (fun K hK => ?_) AllReadyH.nil
    go_simp
    refine (HPR.out HFT.out _ _ _ _ hn.2.2).mono ?_
    rintro e wq ⟨rfl, hnq⟩
    go_wp2_with fail
    have hn := hn.new hnq
    refine hK.out _ _ (by first | exact hn | exact Upd.alloc hn _) (fun hn => ?_)
    clear hK K
    try simp only [Act.put, List.setIfInBounds_toArray, List.set_cons_zero, List.set_cons_succ]
    refine wpAnyH_take (i := 3) (oi := { dst := some 27, op := Op.binOp BinOp.neq 4 (Operand.tmp 25) (Operand.tmp 26) 4, type := 4, pos := "law.go:78", after := #[{ on := 1, ground := Ground.data }, { on := 2, ground := Ground.data }], guard := none }) (v := ?v66x3) rfl (by kernel_rfl) (by kernel_rfl) (by kernel_rfl) (fun _ _ _ h => h) (Or.inl ⟨by rfl, ?y66x3⟩) hn ?r66x3
    case y66x3 => (intro wS hS; go_simp; (try go_simp); (try with_reducible rfl))
    try simp only [Act.put, List.setIfInBounds_toArray, List.set_cons_zero, List.set_cons_succ]
    refine wpAnyH_take (i := 4) (oi := { dst := some 28, op := Op.move (Operand.tmp 27), type := 4, pos := "law.go:78", after := #[{ on := 3, ground := Ground.data }, { on := 1, ground := Ground.chain }], guard := none }) (v := ?v66x4) rfl (by kernel_rfl) (by kernel_rfl) (by kernel_rfl) (fun _ _ _ h => h) (Or.inl ⟨by rfl, ?y66x4⟩) hn ?r66x4
    case y66x4 => (intro wS hS; (try go_simp); (try with_reducible rfl))
    try simp only [Act.put, List.setIfInBounds_toArray, List.set_cons_zero, List.set_cons_succ]
    refine wpAnyH_take (i := 5) (oi := { dst := some 29, op := Op.load 50 (Operand.tmp 5), type := 50, pos := "law.go:78", after := #[{ on := 4, ground := Ground.guard }], guard := some (4, false) }) (v := ?v66x5) rfl (by kernel_rfl) (by kernel_rfl) (by kernel_rfl) (fun _ _ _ h => h) (Or.inl ⟨by rfl, ?y66x5⟩) hn ?r66x5
    case y66x5 => (intro wS hS; refine load_row (x := .tmp 5) ?_ ?_ hS.2.1 Try.underlying50 rfl infoNs; rfl; rfl; (try go_simp); (try with_reducible rfl))
    try simp only [Act.put, List.setIfInBounds_toArray, List.set_cons_zero, List.set_cons_succ]
    refine wpAnyH_take (i := 6) (oi := { dst := some 30, op := Op.load 45 (Operand.tmp 3), type := 45, pos := "law.go:78", after := #[{ on := 4, ground := Ground.guard }], guard := some (4, false) }) (v := ?v66x6) rfl (by kernel_rfl) (by kernel_rfl) (by kernel_rfl) (fun _ _ _ h => h) (Or.inl ⟨by rfl, ?y66x6⟩) hn ?r66x6
    case y66x6 => (intro wS hS; refine load_row (x := .tmp 3) ?_ ?_ hS.1.2.2 Try.underlying45 rfl infoRNs; rfl; rfl; (try go_simp); (try with_reducible rfl))
    try simp only [Act.put, List.setIfInBounds_toArray, List.set_cons_zero, List.set_cons_succ]
    refine wpAnyH_take (i := 9) (oi := { dst := some 33, op := Op.load 45 (Operand.tmp 2), type := 45, pos := "law.go:78", after := #[{ on := 4, ground := Ground.guard }], guard := some (4, false) }) (v := ?v66x7) rfl (by kernel_rfl) (by kernel_rfl) (by kernel_rfl) (fun _ _ _ h => h) (Or.inl ⟨by rfl, ?y66x7⟩) hn ?r66x7
    case y66x7 => (intro wS hS; refine load_row (x := .tmp 2) ?_ ?_ hS.1.2.1 Try.underlying45 rfl infoRNs; rfl; rfl; (try go_simp); (try with_reducible rfl))
    try simp only [Act.put, List.setIfInBounds_toArray, List.set_cons_zero, List.set_cons_succ]
    refine wpAnyH_take (i := 10) (oi := { dst := some 34, op := Op.load 45 (Operand.tmp 3), type := 45, pos := "law.go:78", after := #[{ on := 4, ground := Ground.guard }], guard := some (4, false) }) (v := ?v66x8) rfl (by kernel_rfl) (by kernel_rfl) (by kernel_rfl) (fun _ _ _ h => h) (Or.inl ⟨by rfl, ?y66x8⟩) hn ?r66x8
    case y66x8 => (intro wS hS; refine load_row (x := .tmp 3) ?_ ?_ hS.1.2.2 Try.underlying45 rfl infoRNs; rfl; rfl; (try go_simp); (try with_reducible rfl))
    try simp only [Act.put, List.setIfInBounds_toArray, List.set_cons_zero, List.set_cons_succ]
    refine wpAnyH_ready (rs := [7]) (by kernel_rfl) (by simp) ?_
    refine AllReadyH.cons (o := { dst := some 31, op := Op.call { callee := Callee.value (Operand.func 15), args := #[Operand.tmp 30], argTypes := #[45] }, type := 50, pos := "law.go:78", after := #[{ on := 6, ground := Ground.data }, { on := 4, ground := Ground.chain }, { on := 4, ground := Ground.guard }], guard := some (4, false) }) rfl (fun K hK => ?_) AllReadyH.nil
    go_simp
    refine (HOW2.out HFT2.out _ (HN2.out _ hn)).mono ?_
    rintro e wr ⟨af2, cf2, al2, cl2, rfl, hk2, hnq⟩
    go_wp2_with fail
    have hn := hn.new hnq
    refine hK.out _ _ (by first | exact hn | exact Upd.alloc hn _) (fun hn => ?_)
    clear hK K
    try simp only [Act.put, List.setIfInBounds_toArray, List.set_cons_zero, List.set_cons_succ]
    refine wpAnyH_ready (rs := [8]) (by kernel_rfl) (by simp) ?_
    refine AllReadyH.cons (o := { dst := some 32, op := Op.call { callee := Callee.value (Operand.func 19), args := #[Operand.tmp 29, Operand.tmp 31], argTypes := #[50, 50] }, type := 4, pos := "law.go:78", after := #[{ on := 5, ground := Ground.data }, { on := 7, ground := Ground.data }, { on := 7, ground := Ground.chain }, { on := 4, ground := Ground.guard }], guard := some (4, false) }) rfl (fun K hK => ?_) AllReadyH.nil
    go_simp
    refine (HPS.out HFT.out HFT2.out _ _ _ _ _ _ _ hn.2.2 hk2).mono ?_
    rintro e ws ⟨rfl, hnq⟩
    go_wp2_with fail
    have hn := hn.new hnq
    refine hK.out _ _ (by first | exact hn | exact Upd.alloc hn _) (fun hn => ?_)
    clear hK K
    try simp only [Act.put, List.setIfInBounds_toArray, List.set_cons_zero, List.set_cons_succ]
    refine wpAnyH_ready (rs := [11]) (by kernel_rfl) (by simp) ?_
    refine AllReadyH.cons (o := { dst := some 35, op := Op.call { callee := Callee.value (Operand.func 20), args := #[Operand.tmp 33, Operand.tmp 34], argTypes := #[45, 45] }, type := 4, pos := "law.go:78", after := #[{ on := 9, ground := Ground.data }, { on := 10, ground := Ground.data }, { on := 8, ground := Ground.chain }, { on := 4, ground := Ground.guard }], guard := some (4, false) }) rfl (fun K hK => ?_) AllReadyH.nil
    go_simp
    refine (HRS.out HFT.out HFT2.out _ (HN2.out _ hn)).mono ?_
    rintro e wt ⟨rfl, hnq⟩
    go_wp2_with fail
    have hn := hn.new hnq
    (try have hk2 := hk2.new hnq)
    refine hK.out _ _ (by first | exact hn | exact Upd.alloc hn _) (fun hn => ?_)
    clear hK K
    try simp only [Act.put, List.setIfInBounds_toArray, List.set_cons_zero, List.set_cons_succ]
    refine wpAnyH_take (i := 12) (oi := { dst := some 36, op := Op.binOp BinOp.neq 4 (Operand.tmp 32) (Operand.tmp 35) 4, type := 4, pos := "law.go:78", after := #[{ on := 8, ground := Ground.data }, { on := 11, ground := Ground.data }, { on := 4, ground := Ground.guard }], guard := some (4, false) }) (v := ?v66x9) rfl (by kernel_rfl) (by kernel_rfl) (by kernel_rfl) (fun _ _ _ h => h) (Or.inl ⟨by rfl, ?y66x9⟩) hn ?r66x9
    case y66x9 => (intro wS hS; go_simp; (try go_simp); (try with_reducible rfl))
    try simp only [Act.put, List.setIfInBounds_toArray, List.set_cons_zero, List.set_cons_succ]
    refine wpAnyH_take (i := 13) (oi := { dst := some 37, op := Op.pick (Operand.tmp 28) (Operand.const (Value.bool true)) (Operand.tmp 36), type := 4, pos := "law.go:78", after := #[{ on := 4, ground := Ground.data }, { on := 12, ground := Ground.data }], guard := none }) (v := ?v66x10) rfl (by kernel_rfl) (by kernel_rfl) (by kernel_rfl) (fun _ _ _ h => h) (Or.inl ⟨by rfl, ?y66x10⟩) hn ?r66x10
    case y66x10 => (intro wS hS; (try go_simp); (try with_reducible rfl))
    try simp only [Act.put, List.setIfInBounds_toArray, List.set_cons_zero, List.set_cons_succ]
    refine wpAnyH_done (by kernel_rfl) ?_ _
    refine NoPanic.normal ?_
    go_wp2_with fail
    go_meet
    exact ⟨rfl, hn⟩
  case rest =>
  obtain ⟨rfl, hcur⟩ := hcut
  obtain ⟨w7, rfl⟩ : ∃ w7, w7 = wc := ⟨_, rfl⟩
  have HC7 := hid hcur
  clear hcur HC6 HPR HOW2 HPS HRS HMAY
  have HAW := hid (fun w => awake14_any w)
  cases may with
  | false =>
    obtain ⟨rfl, rfl⟩ := HS2.out rfl
    clear HS1 HS2
    go_wp2_with fail
    refine (HAW.out _).mono ?_
    rintro e w8 ⟨rfl, hn⟩
    have HN8 := hid (New.trans HC7.out.1.1 hn)
    clear hn
    go_wp2_with fail
    go_ret
    exact ⟨rfl, New.trans HN.out HN8.out⟩
  | true =>
    obtain ⟨rfl, rfl⟩ := HS1.out rfl
    clear HS1 HS2
    obtain ⟨z0, z1, z2, z3, z4, z5⟩ := NBox.cs HC7.out.1.2.1
    simp only at z0 z1 z2 z3 z4 z5
    have HRP2 := hid (HRP.out HFT.out)
    clear HRP
    generalize nsB ⟨hm, hf, hl, md, fs, ls⟩ = LL at *
    go_wp2_with fail
    clear z0 z1 z2 z3 z4 z5
    refine (HRP2.out _ (HN2.out _ HC7.out)).mono ?_
    rintro e w8 ⟨rfl, hn⟩
    have HN8 := hid (New.trans HC7.out.1.1 hn)
    clear hn
    go_wp2_with fail
    refine (HAW.out _).mono ?_
    rintro e w9 ⟨rfl, hn⟩
    have HN9 := hid (New.trans HN8.out hn)
    clear hn
    go_wp2_with fail
    go_ret
    exact ⟨rfl, New.trans HN.out HN9.out⟩
end Go.Proofs.Ytnngibflnnmioaa
