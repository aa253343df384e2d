/-
  The laws of the cursor: are asks as they should be?
-/
import Derived.Test.YtkfohickmdkplaaJ35
import Derived.Test.YtkfohickmdkplaaJ11
import Derived.Test.YtkfohickmdkplaaJ13
import Derived.Test.YtkfohickmdkplaaJ36
namespace Go.Proofs.Ytkfohickmdkplaa
open Go.RowKit Go.Proofs.Leb Go.Proofs.Own Go.Proofs.Cur Go.Proofs.Span
set_option maxRecDepth 100000
set_option maxHeartbeats 4000000

structure FineA (a : AskM) : Prop where
  beh : Span.right a.x.b1 a.x.b2
  want : a.doo % 6 = 1 → 0 ≤ a.x.kind ∧ a.x.kind ≤ 3 ∧ Span.item a.x.i1 a.x.i2 ∧ Span.right a.x.o1 a.x.o2 ∧ a.x.picks.length ≤ 20 ∧ ∀ y ∈ a.x.picks, Span.right y.2.1 y.2.2
  sign : a.doo % 6 = 2 → 1 ≤ a.n ∧ a.n ≤ 64

def FineP (l : List AskM) (w : World) (e : Ending) (w' : World) : Prop := ∃ c, e = .returned (.bool c) ∧ New w w' ∧ (c = true → l.length ≤ 30 ∧ ∀ a ∈ l, FineA a)
theorem FineP.no {l : List AskM} {w : World} {e : Ending} {w' : World} (h : e = .returned (.bool false)) (hn : New w w') : FineP l w e w' := ⟨false, h, hn, fun h => by cases h⟩
theorem FineP.yes {l : List AskM} {w : World} {e : Ending} {w' : World} (h : e = .returned (.bool true)) (hn : New w w') (hl : l.length ≤ 30) (ha : ∀ a ∈ l, FineA a) : FineP l w e w' := ⟨true, h, hn, fun _ => ⟨hl, ha⟩⟩
theorem Fine_any (v : Value) (l : List AskM) (B : Nat → Prop) (w : World) (hr : RdE 14 EAsk w B v l) (hw : ∀ a ∈ l, WfA a) (hl : l.length ≤ 140737488355328) :
    Calls Try.prog 5 #[v] w (FineP l w) := by
  have HR := hid hr
  have HW := hid hw
  have HRI := hid right_any
  obtain ⟨av, cv, rfl⟩ := hr.shape
  clear hr hw
  go_enter Try.func5, Try.ntmps5
  go_wp2_with fail
  go_loopg [3] 31 (fun k a wr => ∃ i : Nat, k = 31 - i ∧ a = .int .i64 i ∧ i ≤ l.length ∧ i ≤ 31 ∧ New w wr ∧ ∀ j (_ : j < i) (hj : j < l.length), FineA l[j])
  case atStart => exact ⟨0, rfl, rfl, Nat.zero_le _, by omega, Upd.refl _ _, fun j h => absurd h (Nat.not_lt_zero _)⟩
  case round =>
    obtain ⟨i, rfl, rfl, hi1, hi2, hw, hbefore⟩ := hrel
    have HWW := hid hw
    have HB := hid hbefore
    clear hw hbefore
    by_cases hlt : i < l.length
    · by_cases h30 : (i : Int) ≤ 30
      · obtain ⟨_, _, e, hat⟩ := HR.out.at
        obtain ⟨b, o, row, rfl, hlen, ⟨pv, rfl, hpk, -⟩, hc⟩ := hat i hlt
        cases e
        obtain ⟨pa, pc, rfl⟩ := hpk.shape
        have HWF := hid (HW.out l[i] (List.getElem_mem _))
        obtain ⟨a, ha⟩ : ∃ a, l[i] = a := ⟨_, rfl⟩
        have HA := hid ha
        rw [ha] at hc hpk HWF
        have HP := hid hpk
        clear hpk
        have HC : Hid (∀ W, New wr W → ∀ j u, (rowA a (.slice pa a.x.picks.length pc))[j]? = some u → W.cell? ⟨b, o + i * 14 + j, none⟩ = some u) := fun W hW j u hj => (New.trans HWW.out hW).cell (hc j u (by simpa using hj)) (fun h => h)
        have HC4 : Hid (∀ W, New wr W → ∀ j u, (valW a.x (.slice pa a.x.picks.length pc))[j]? = some u → W.cell? ⟨b, o + i * 14 + 4 + j, none⟩ = some u) := fun W hW j u hj => by
          have := HC.out W hW (4 + j) u (by unfold rowA; rw [Array.getElem?_append_right (by simp)]; simpa using hj)
          rw [← Nat.add_assoc] at this
          exact this
        have HC0 : Hid (∀ W, New wr W → W.cell? ⟨b, o + i * 14, none⟩ = some (.int .u8 a.doo)) := fun W hW => HC.out W hW 0 _ rfl
        clear ha hat hc hlen
        have hn : New wr wr.drew := (Upd.refl _ _).drew
        obtain ⟨d, hd⟩ : ∃ d : Nat, a.doo % 6 = d := ⟨_, rfl⟩
        have ed : (a.doo : Int).tmod 6 = (d : Int) := by rw [Int.tmod_eq_emod_of_nonneg (Int.natCast_nonneg _)]; omega
        have HD := hid hd
        clear hd
        go_upto_region 4 with fail
        refine wp_region_noPanic ?_
        refine wp_region_held_drew (S := (New wr)) (by kernel_rfl) (by first | exact hn | exact (Upd.refl _ _).drew | exact Upd.drew (by assumption)) (fun hn => ?_)
        generalize wr.drew = wd at *
        refine wpAnyH_take (i := 0) (oi := { dst := some 17, op := Op.move (Operand.tmp 0), type := 23, pos := "law.go:24", after := #[], guard := none }) (v := ?v20x1) rfl (by kernel_rfl) (by kernel_rfl) (by kernel_rfl) (fun _ _ _ h => h) (Or.inl ⟨by rfl, ?y20x1⟩) hn ?r20x1
        case y20x1 => (intro wS hS; (try go_simp); (try with_reducible rfl))
        try simp only [Act.put, List.setIfInBounds_toArray, List.set_cons_zero, List.set_cons_succ]
        refine wpAnyH_take (i := 1) (oi := { dst := some 18, op := Op.move (Operand.tmp 3), type := 3, pos := "law.go:24", after := #[], guard := none }) (v := ?v20x2) rfl (by kernel_rfl) (by kernel_rfl) (by kernel_rfl) (fun _ _ _ h => h) (Or.inl ⟨by rfl, ?y20x2⟩) hn ?r20x2
        case y20x2 => (intro wS hS; (try go_simp); (try with_reducible rfl))
        try simp only [Act.put, List.setIfInBounds_toArray, List.set_cons_zero, List.set_cons_succ]
        refine wpAnyH_take (i := 2) (oi := { dst := some 19, op := Op.indexAddr 23 (Operand.tmp 17) (Operand.tmp 18), type := 0, pos := "law.go:24", after := #[{ on := 0, ground := Ground.data }, { on := 1, ground := Ground.data }], guard := none }) (v := ?v20x3) rfl (by kernel_rfl) (by kernel_rfl) (by kernel_rfl) (fun _ _ _ h => h) (Or.inl ⟨by rfl, ?y20x3⟩) hn ?r20x3
        case y20x3 => (intro wS hS; (try go_simp); (try with_reducible rfl))
        try simp only [Act.put, List.setIfInBounds_toArray, List.set_cons_zero, List.set_cons_succ]
        refine wpAnyH_take (i := 3) (oi := { dst := some 20, op := Op.fieldAddr 49 (Operand.tmp 19) 4, type := 0, pos := "law.go:24", after := #[{ on := 2, ground := Ground.data }], guard := none }) (v := ?v20x4) rfl (by kernel_rfl) (by kernel_rfl) (by kernel_rfl) (fun _ _ _ h => h) (Or.inl ⟨by rfl, ?y20x4⟩) hn ?r20x4
        case y20x4 => (intro wS hS; (try go_simp); (try with_reducible rfl))
        try simp only [Act.put, List.setIfInBounds_toArray, List.set_cons_zero, List.set_cons_succ]
        refine wpAnyH_take (i := 4) (oi := { dst := some 21, op := Op.load 47 (Operand.tmp 20), type := 47, pos := "law.go:24", after := #[{ on := 3, ground := Ground.data }], guard := none }) (v := ?v20x5) rfl (by kernel_rfl) (by kernel_rfl) (by kernel_rfl) (fun _ _ _ h => h) (Or.inl ⟨by rfl, ?y20x5⟩) hn ?r20x5
        case y20x5 => (intro wS hS; rw [load_at (cs := valW a.x (.slice pa a.x.picks.length pc)) (b := b) (off := o + i * 14 + 4) rfl rfl (HC4.out _ hS) Try.underlying47 rfl infoW]; (try go_simp); (try with_reducible rfl))
        try simp only [Act.put, List.setIfInBounds_toArray, List.set_cons_zero, List.set_cons_succ]
        refine wpAnyH_take (i := 5) (oi := { dst := some 22, op := Op.move (Operand.tmp 0), type := 23, pos := "law.go:24", after := #[{ on := 12, ground := Ground.gcOnly Departure.lateStores }], guard := none }) (v := ?v20x6) rfl (by kernel_rfl) (by kernel_rfl) (by kernel_rfl) (fun _ _ _ h => h) (Or.inl ⟨by rfl, ?y20x6⟩) hn ?r20x6
        case y20x6 => (intro wS hS; (try go_simp); (try with_reducible rfl))
        try simp only [Act.put, List.setIfInBounds_toArray, List.set_cons_zero, List.set_cons_succ]
        refine wpAnyH_take (i := 6) (oi := { dst := some 23, op := Op.move (Operand.tmp 3), type := 3, pos := "law.go:24", after := #[{ on := 12, ground := Ground.gcOnly Departure.lateStores }], guard := none }) (v := ?v20x7) rfl (by kernel_rfl) (by kernel_rfl) (by kernel_rfl) (fun _ _ _ h => h) (Or.inl ⟨by rfl, ?y20x7⟩) hn ?r20x7
        case y20x7 => (intro wS hS; (try go_simp); (try with_reducible rfl))
        try simp only [Act.put, List.setIfInBounds_toArray, List.set_cons_zero, List.set_cons_succ]
        refine wpAnyH_take (i := 7) (oi := { dst := some 24, op := Op.indexAddr 23 (Operand.tmp 22) (Operand.tmp 23), type := 0, pos := "law.go:24", after := #[{ on := 5, ground := Ground.data }, { on := 6, ground := Ground.data }, { on := 12, ground := Ground.gcOnly Departure.lateStores }], guard := none }) (v := ?v20x8) rfl (by kernel_rfl) (by kernel_rfl) (by kernel_rfl) (fun _ _ _ h => h) (Or.inl ⟨by rfl, ?y20x8⟩) hn ?r20x8
        case y20x8 => (intro wS hS; (try go_simp); (try with_reducible rfl))
        try simp only [Act.put, List.setIfInBounds_toArray, List.set_cons_zero, List.set_cons_succ]
        refine wpAnyH_take (i := 8) (oi := { dst := some 25, op := Op.fieldAddr 49 (Operand.tmp 24) 0, type := 0, pos := "law.go:24", after := #[{ on := 7, ground := Ground.data }, { on := 12, ground := Ground.gcOnly Departure.lateStores }], guard := none }) (v := ?v20x9) rfl (by kernel_rfl) (by kernel_rfl) (by kernel_rfl) (fun _ _ _ h => h) (Or.inl ⟨by rfl, ?y20x9⟩) hn ?r20x9
        case y20x9 => (intro wS hS; (try go_simp); (try with_reducible rfl))
        try simp only [Act.put, List.setIfInBounds_toArray, List.set_cons_zero, List.set_cons_succ]
        refine wpAnyH_take (i := 9) (oi := { dst := some 26, op := Op.load 5 (Operand.tmp 25), type := 5, pos := "law.go:24", after := #[{ on := 8, ground := Ground.data }, { on := 12, ground := Ground.gcOnly Departure.lateStores }], guard := none }) (v := ?v20x10) rfl (by kernel_rfl) (by kernel_rfl) (by kernel_rfl) (fun _ _ _ h => h) (Or.inl ⟨by rfl, ?y20x10⟩) hn ?r20x10
        case y20x10 => (intro wS hS; have c0 := HC0.out _ hS; (try go_simp); (try with_reducible rfl))
        try simp only [Act.put, List.setIfInBounds_toArray, List.set_cons_zero, List.set_cons_succ]
        refine wpAnyH_take (i := 10) (oi := { dst := some 27, op := Op.binOp BinOp.rem 5 (Operand.tmp 26) (Operand.const (Value.int IntKind.u8 6)) 5, type := 5, pos := "law.go:24", after := #[{ on := 9, ground := Ground.data }, { on := 12, ground := Ground.gcOnly Departure.lateStores }], guard := none }) (v := ?v20x11) rfl (by kernel_rfl) (by kernel_rfl) (by kernel_rfl) (fun _ _ _ h => h) (Or.inl ⟨by rfl, ?y20x11⟩) hn ?r20x11
        case y20x11 => (intro wS hS; (try go_simp); (try with_reducible rfl))
        try simp only [Act.put, List.setIfInBounds_toArray, List.set_cons_zero, List.set_cons_succ]
        refine wpAnyH_ready (rs := [11]) (by kernel_rfl) (by simp) ?_
        refine AllReadyH.cons (o := { dst := some 4, op := Op.alloc 47, type := 0, pos := "law.go:24", after := #[], guard := none }) rfl (fun K hK => ?_) AllReadyH.nil
        go_simp
        refine absN hn ?_ hn.size
        intro g hg hgf
        rw [hg] at hgf ⊢
        refine allocRow hn ?_
        intro W2 hu hn hz
        rw [hg] at hz
        clear hg hu
        refine hK.out _ _ (by first | exact hn | exact Upd.alloc hn _) (fun hn => ?_)
        clear hK K
        try simp only [Act.put, List.setIfInBounds_toArray, List.set_cons_zero, List.set_cons_succ]
        refine wpAnyH_ready (rs := [12]) (by kernel_rfl) (by simp) ?_
        refine AllReadyH.cons (o := { dst := none, op := Op.store 47 (Operand.tmp 4) (Operand.tmp 21), type := 0, pos := "law.go:24", after := #[{ on := 11, ground := Ground.data }, { on := 4, ground := Ground.data }, { on := 0, ground := Ground.phase }, { on := 1, ground := Ground.phase }, { on := 2, ground := Ground.phase }, { on := 3, ground := Ground.phase }, { on := 4, ground := Ground.phase }, { on := 5, ground := Ground.textOnly Departure.lateStores }, { on := 6, ground := Ground.textOnly Departure.lateStores }, { on := 7, ground := Ground.textOnly Departure.lateStores }, { on := 8, ground := Ground.textOnly Departure.lateStores }, { on := 9, ground := Ground.textOnly Departure.lateStores }, { on := 10, ground := Ground.textOnly Departure.lateStores }, { on := 11, ground := Ground.phase }], guard := none }) rfl (fun K hK => ?_) AllReadyH.nil
        refine step_storeT 47 _ _ rfl rfl g (valW a.x (.slice pa a.x.picks.length pc)) rfl rfl 47 _ hz infoW rfl (by simp [valW, Value.oneCell']) ?_
        obtain ⟨hus, hbs⟩ := run_setRowT (cs := valW a.x (.slice pa a.x.picks.length pc)) hz
        have hn := Upd.trans (S := fun _ => False) hn hus (fun k hk e => by omega)
        refine hK.out _ _ (by first | exact hn | exact Upd.alloc hn _) (fun hn => ?_)
        clear hK K
        try simp only [Act.put, List.setIfInBounds_toArray, List.set_cons_zero, List.set_cons_succ]
        refine wpAnyH_take (i := 13) (oi := { dst := some 5, op := Op.assign (Operand.tmp 27), type := 5, pos := "law.go:24", after := #[{ on := 10, ground := Ground.data }, { on := 12, ground := Ground.chain }, { on := 0, ground := Ground.phase }, { on := 1, ground := Ground.phase }, { on := 2, ground := Ground.phase }, { on := 3, ground := Ground.phase }, { on := 4, ground := Ground.phase }, { on := 5, ground := Ground.phase }, { on := 6, ground := Ground.phase }, { on := 7, ground := Ground.phase }, { on := 8, ground := Ground.phase }, { on := 9, ground := Ground.phase }, { on := 10, ground := Ground.phase }, { on := 11, ground := Ground.phase }, { on := 12, ground := Ground.phase }], guard := none }) (v := ?v20x12) rfl (by kernel_rfl) (by kernel_rfl) (by kernel_rfl) (fun _ _ _ h => h) (Or.inl ⟨by rfl, ?y20x12⟩) hn ?r20x12
        case y20x12 => (intro wS hS; (try go_simp); (try with_reducible rfl))
        try simp only [Act.put, List.setIfInBounds_toArray, List.set_cons_zero, List.set_cons_succ]
        refine wpAnyH_done (by kernel_rfl) ?_ _
        refine NoPanic.normal ?_
        generalize W2.setRow g (valW a.x (.slice pa a.x.picks.length pc)) = w3 at *
        have HN3 := hid hn
        have HPK : Hid (∀ W, New w3 W → RdK W (.slice pa a.x.picks.length pc) a.x.picks) := fun W hW => HP.out.new (New.trans (New.trans HWW.out HN3.out) hW)
        have HN0 := hid (New.trans HWW.out hn)
        clear hus hz hn ed
        obtain ⟨⟨kind, lo, hi, i1, i2, o1, o2, b1, b2, ps⟩, hx⟩ : ∃ x : Wnt, a.x = x := ⟨_, rfl⟩
        have HXX := hid hx
        rw [hx] at hbs HPK
        have hbl : a.x.picks.length = ps.length := by rw [hx]
        simp only at HPK
        unfold valW at hbs
        simp only at hbs
        have HG : Hid (∀ W, New w3 W → W.heap[g]? = some (.cells #[.int .i64 kind, .int .u64 lo, .int .u64 hi, .int .i64 i1, .int .i64 i2, .int .i64 o1, .int .i64 o2, .int .i64 b1, .int .i64 b2, .slice pa ps.length pc] 47)) := fun W hW => (hW.block g (Array.getElem?_eq_some_iff.1 hbs).1 (fun h => h)).trans hbs
        have CELL : Hid (∀ W, New w3 W → ∀ j u, #[Value.int .i64 kind, .int .u64 lo, .int .u64 hi, .int .i64 i1, .int .i64 i2, .int .i64 o1, .int .i64 o2, .int .i64 b1, .int .i64 b2, .slice pa ps.length pc][j]? = some u → W.cell? ⟨g, j, none⟩ = some u) := fun W hW j u hj => by rw [cell_of_row _ g j _ _ (0, 0) (HG.out W hW)]; exact hj
        clear hbs hbl hx
        have HIT := hid ritem_any
        go_upto_region 5 with fail
        go_cut [63] (fun v wx => New w3 wx ∧ ∃ c, v = .bool c ∧ (c = false → Span.right b1 b2 ∧ (d = 1 → 0 ≤ kind ∧ kind ≤ 3 ∧ Span.item i1 i2 ∧ Span.right o1 o2 ∧ ps.length ≤ 20)))
        case first =>
          have c0 : w3.cell? ⟨g, 0, none⟩ = some (.int .i64 kind) := CELL.out _ (Upd.refl _ _) 0 _ rfl
          have c3 : w3.cell? ⟨g, 3, none⟩ = some (.int .i64 i1) := CELL.out _ (Upd.refl _ _) 3 _ rfl
          have c4 : w3.cell? ⟨g, 4, none⟩ = some (.int .i64 i2) := CELL.out _ (Upd.refl _ _) 4 _ rfl
          have C56 : Hid (∀ W, New w3 W → W.cell? ⟨g, 5, none⟩ = some (.int .i64 o1) ∧ W.cell? ⟨g, 6, none⟩ = some (.int .i64 o2)) := fun W hW => ⟨CELL.out _ hW 5 _ rfl, CELL.out _ hW 6 _ rfl⟩
          have C78 : Hid (∀ W, New w3 W → W.cell? ⟨g, 7, none⟩ = some (.int .i64 b1) ∧ W.cell? ⟨g, 8, none⟩ = some (.int .i64 b2)) := fun W hW => ⟨CELL.out _ hW 7 _ rfl, CELL.out _ hW 8 _ rfl⟩
          have C9 : Hid (∀ W, New w3 W → W.cell? ⟨g, 9, none⟩ = some (.slice pa ps.length pc)) := fun W hW => CELL.out _ hW 9 _ rfl
          have HR0 : Hid (New w3 w3) := Upd.refl _ _
          have HQ1 := hid (fun W => (HRI.out b1 b2 W).mono (R' := fun e w' => e = .returned (.bool (rightB b1 b2)) ∧ New W w') (by rintro e w' ⟨rfl, rfl⟩; exact ⟨rfl, (Upd.refl _ _).alloc _⟩))
          have HQ2 := hid (fun W => (HRI.out o1 o2 W).mono (R' := fun e w' => e = .returned (.bool (rightB o1 o2)) ∧ New W w') (by rintro e w' ⟨rfl, rfl⟩; exact ⟨rfl, (Upd.refl _ _).alloc _⟩))
          have HQ3 := hid (fun W => HIT.out i1 i2 W)
          obtain ⟨q1, hq1⟩ : ∃ q, rightB b1 b2 = q := ⟨_, rfl⟩
          obtain ⟨q2, hq2⟩ : ∃ q, rightB o1 o2 = q := ⟨_, rfl⟩
          obtain ⟨q3, hq3⟩ : ∃ q, itemB i1 i2 = q := ⟨_, rfl⟩
          have HE1 := hid hq1
          have HE2 := hid hq2
          have HE3 := hid hq3
          rw [hq1] at HQ1
          rw [hq2] at HQ2
          rw [hq3] at HQ3
          clear hq1 hq2 hq3
          by_cases hd1 : d = 1
          · subst hd1
            by_cases k0 : kind < 0
            · go_wp2_with fail
              go_meet
              exact ⟨HR0.out, true, rfl, fun h => by cases h⟩
            · by_cases k3 : 3 < kind
              · go_wp2_with fail
                go_meet
                exact ⟨HR0.out, true, rfl, fun h => by cases h⟩
              · cases q3 with
                | false =>
                  go_wp2_with fail
                  refine (HQ3.out _).mono ?_
                  rintro e w4 ⟨rfl, hn4⟩
                  have HN4 := hid hn4
                  clear hn4
                  go_wp2_with fail
                  go_meet
                  exact ⟨HN4.out, true, rfl, fun h => by cases h⟩
                | true =>
                  go_wp2_with fail
                  refine (HQ3.out _).mono ?_
                  rintro e w4 ⟨rfl, hn4⟩
                  have HN4 := hid hn4
                  clear hn4
                  have c5 := (C56.out _ HN4.out).1
                  have c6 := (C56.out _ HN4.out).2
                  cases q2 with
                  | false =>
                    go_wp2_with fail
                    refine (HQ2.out _).mono ?_
                    rintro e w5 ⟨rfl, hn5⟩
                    have HN5 := hid (New.trans HN4.out hn5)
                    clear hn5
                    go_wp2_with fail
                    go_meet
                    exact ⟨HN5.out, true, rfl, fun h => by cases h⟩
                  | true =>
                    go_wp2_with fail
                    refine (HQ2.out _).mono ?_
                    rintro e w5 ⟨rfl, hn5⟩
                    have HN5 := hid (New.trans HN4.out hn5)
                    clear hn5 c0 c3 c4 c5 c6
                    have c9 := C9.out _ HN5.out
                    by_cases k20 : (20 : Int) < ps.length
                    · go_wp2_with fail
                      go_meet
                      exact ⟨HN5.out, true, rfl, fun h => by cases h⟩
                    · have HK := hid (show ps.length ≤ 20 by omega)
                      have c7 := (C78.out _ HN5.out).1
                      have c8 := (C78.out _ HN5.out).2
                      cases q1 with
                      | true =>
                        go_wp2_with fail
                        refine (HQ1.out _).mono ?_
                        rintro e w6 ⟨rfl, hn6⟩
                        have HN6 := hid (New.trans HN5.out hn6)
                        clear hn6
                        go_wp2_with fail
                        go_meet
                        exact ⟨HN6.out, false, (by first | rfl | (rw [decide_eq_false (by have := HK.out; omega)])), fun _ => ⟨(rightB_iff _ _).1 HE1.out, fun _ => ⟨by omega, by omega, (itemB_iff _ _).1 HE3.out, (rightB_iff _ _).1 HE2.out, HK.out⟩⟩⟩
                      | false =>
                        go_wp2_with fail
                        refine (HQ1.out _).mono ?_
                        rintro e w6 ⟨rfl, hn6⟩
                        have HN6 := hid (New.trans HN5.out hn6)
                        clear hn6
                        go_wp2_with fail
                        go_meet
                        exact ⟨HN6.out, true, rfl, fun h => by cases h⟩
          · have hd2 : ((d : Int) == 1) = false := by rw [beq_eq_false_iff_ne]; omega
            have HD1 := hid hd1
            clear hd1
            have c7 := (C78.out _ HR0.out).1
            have c8 := (C78.out _ HR0.out).2
            cases q1 with
            | true =>
              go_wp2_with fail
              refine (HQ1.out _).mono ?_
              rintro e w6 ⟨rfl, hn6⟩
              have HN6 := hid (New.trans HR0.out hn6)
              clear hn6
              go_wp2_with fail
              go_meet
              exact ⟨HN6.out, false, (by first | rfl | (rw [decide_eq_false (by have := HK.out; omega)])), fun _ => ⟨(rightB_iff _ _).1 HE1.out, fun h => absurd h HD1.out⟩⟩
            | false =>
              go_wp2_with fail
              refine (HQ1.out _).mono ?_
              rintro e w6 ⟨rfl, hn6⟩
              have HN6 := hid (New.trans HR0.out hn6)
              clear hn6
              go_wp2_with fail
              go_meet
              exact ⟨HN6.out, true, rfl, fun h => by cases h⟩
        case rest =>
          obtain ⟨hn4, c, rfl, hcf⟩ := hcut
          have HN4 := hid hn4
          have HCF := hid hcf
          clear hn4 hcf
          cases c with
          | true =>
            go_wp2_with fail
            go_ret
            exact FineP.no rfl (New.trans HN0.out HN4.out)
          | false =>
            have HPD := hid (HPK.out _ HN4.out)
            have C9 : Hid (∀ W, New wc W → W.cell? ⟨g, 9, none⟩ = some (.slice pa ps.length pc)) := fun W hW => CELL.out _ (New.trans HN4.out hW) 9 _ rfl
            have CN : Hid (∀ W, New wc W → W.cell? ⟨b, o + i * 14 + 1, none⟩ = some (.int .i64 a.n)) := fun W hW => HC.out _ (New.trans HN3.out (New.trans HN4.out hW)) 1 _ rfl
            have FIN : Hid ((d = 1 → ∀ z (h : z < ps.length), Span.right ps[z].2.1 ps[z].2.2) → (d = 2 → 1 ≤ a.n ∧ a.n ≤ 64) → FineA a) := by
              intro g1 g2
              have hf := HCF.out rfl
              refine ⟨by rw [HXX.out]; exact hf.1, fun h => ?_, fun h => g2 (HD.out.symm.trans h)⟩
              have h1 : d = 1 := HD.out.symm.trans h
              have h2 := hf.2 h1
              rw [HXX.out]
              refine ⟨h2.1, h2.2.1, h2.2.2.1, h2.2.2.2.1, h2.2.2.2.2, fun y hy => ?_⟩
              obtain ⟨z, hz, rfl⟩ := List.mem_iff_getElem.mp hy
              exact g1 h1 z hz
            have hfew : ps.length ≤ 140737488355328 := by have := HWF.out.few; rw [HXX.out] at this; exact this
            by_cases hd1 : d = 1
            · subst hd1
              go_wp2_with fail
              go_loopg [6] ps.length (fun kk c wi => ∃ j : Nat, kk = ps.length - j ∧ c = .int .i64 j ∧ j ≤ ps.length ∧ New wc wi ∧ ∀ z (_ : z < j) (h : z < ps.length), Span.right ps[z].2.1 ps[z].2.2)
              case atStart => exact ⟨0, by simp, rfl, Nat.zero_le _, Upd.refl _ _, fun z h => absurd h (Nat.not_lt_zero _)⟩
              case round =>
                obtain ⟨j, rfl, rfl, hj, hwi, hbef⟩ := hrel
                have HWI := hid hwi
                have HBF := hid hbef
                have c9 := C9.out _ hwi
                clear hwi hbef
                by_cases hjl : j < ps.length
                · obtain ⟨_, _, e, _, _, hcell⟩ := HPD.out
                  obtain ⟨bl, of, rfl, hcl⟩ := hcell (by intro h; subst h; simp at hjl)
                  cases e
                  have d1 := HWI.out.cell (hcl j hjl).2.1 (fun h => h)
                  have d2 := HWI.out.cell (hcl j hjl).2.2 (fun h => h)
                  have HNX : Hid (Span.right ps[j].2.1 ps[j].2.2 → ∀ z (_ : z < j + 1) (h : z < ps.length), Span.right ps[z].2.1 ps[z].2.2) := by
                    intro h z h1 h2
                    rcases Nat.lt_or_ge z j with h3 | h3
                    · exact HBF.out z h3 h2
                    · have : z = j := by omega
                      subst this
                      exact h
                  have HH := hid (fun W => (HRI.out ps[j].2.1 ps[j].2.2 W).mono (R' := fun e w' => e = .returned (.bool (rightB ps[j].2.1 ps[j].2.2)) ∧ New W w') (by rintro e w' ⟨rfl, rfl⟩; exact ⟨rfl, (Upd.refl _ _).alloc _⟩))
                  obtain ⟨y1, hy1⟩ : ∃ y, ps[j].2.1 = y := ⟨_, rfl⟩
                  obtain ⟨y2, hy2⟩ : ∃ y, ps[j].2.2 = y := ⟨_, rfl⟩
                  rw [hy1] at d1 HNX HH
                  rw [hy2] at d2 HNX HH
                  obtain ⟨q, hq⟩ : ∃ q, rightB y1 y2 = q := ⟨_, rfl⟩
                  have HQ := hid hq
                  rw [hq] at HH
                  clear hy1 hy2 hcl hcell hq
                  cases q with
                  | false =>
                    go_wp2_with fail
                    refine (HH.out _).mono ?_
                    rintro e w6 ⟨rfl, hn6⟩
                    have HN6 := hid (New.trans HN0.out (New.trans HN4.out (New.trans HWI.out hn6)))
                    clear hn6
                    go_wp2_with fail
                    go_ret
                    exact FineP.no rfl (HN6.out)
                  | true =>
                    go_wp2_with fail
                    refine (HH.out _).mono ?_
                    rintro e w6 ⟨rfl, hn6⟩
                    have HN6 := hid (New.trans HWI.out hn6)
                    clear hn6
                    go_wp2_with fail
                    go_roundg (ps.length - (j + 1))
                    case measure => omega
                    case rel => exact ⟨j + 1, rfl, by go_num, by omega, HN6.out, HNX.out ((rightB_iff _ _).1 HQ.out)⟩
                · obtain rfl : j = ps.length := by omega
                  go_wp2_with fail
                  go_roundg (31 - (i + 1))
                  case measure => omega
                  case rel =>
                    refine ⟨i + 1, rfl, by go_num, by omega, by omega, New.trans HN0.out (New.trans HN4.out HWI.out), fun j h1 h2 => ?_⟩
                    rcases Nat.lt_or_ge j i with h3 | h3
                    · exact HB.out j h3 h2
                    · have : j = i := by omega
                      subst this
                      rw [HA.out]
                      exact FIN.out (fun _ z h => HBF.out z h h) (fun h => absurd h (by decide))
            · have hd1b : ((d : Int) == 1) = false := by rw [beq_eq_false_iff_ne]; omega
              have HD1 := hid hd1
              clear hd1
              go_wp2_with fail
              go_loopg [6] 1 (fun kk c wi => kk = 1 ∧ c = .int .i64 0 ∧ New wc wi)
              case atStart => exact ⟨rfl, rfl, Upd.refl _ _⟩
              case round =>
                obtain ⟨rfl, rfl, hwi⟩ := hrel
                have HWI := hid hwi
                have c9 := C9.out _ hwi
                have cn := CN.out _ hwi
                clear hwi
                obtain ⟨n, hn'⟩ : ∃ n, a.n = n := ⟨_, rfl⟩
                have HNN := hid hn'
                rw [hn'] at cn
                clear hn'
                by_cases hp : (0 : Int) < ps.length
                all_goals
                  by_cases hd2 : d = 2
                  · subst hd2
                    by_cases n1 : n < 1
                    · go_wp2_with fail
                      go_ret
                      exact FineP.no rfl (New.trans HN0.out (New.trans HN4.out HWI.out))
                    · by_cases n64 : 64 < n
                      · go_wp2_with fail
                        go_ret
                        exact FineP.no rfl (New.trans HN0.out (New.trans HN4.out HWI.out))
                      · have HNR := hid (show 1 ≤ n ∧ n ≤ 64 by omega)
                        go_wp2_with fail
                        go_roundg (31 - (i + 1))
                        case measure => omega
                        case rel =>
                          refine ⟨i + 1, rfl, by go_num, by omega, by omega, New.trans HN0.out (New.trans HN4.out HWI.out), fun j h1 h2 => ?_⟩
                          rcases Nat.lt_or_ge j i with h3 | h3
                          · exact HB.out j h3 h2
                          · have : j = i := by omega
                            subst this
                            rw [HA.out]
                            exact FIN.out (fun h => absurd h HD1.out) (fun _ => by rw [HNN.out]; exact HNR.out)
                  · have hd2b : ((d : Int) == 2) = false := by rw [beq_eq_false_iff_ne]; omega
                    have HD2 := hid hd2
                    clear hd2
                    go_wp2_with fail
                    go_roundg (31 - (i + 1))
                    case measure => omega
                    case rel =>
                      refine ⟨i + 1, rfl, by go_num, by omega, by omega, New.trans HN0.out (New.trans HN4.out HWI.out), fun j h1 h2 => ?_⟩
                      rcases Nat.lt_or_ge j i with h3 | h3
                      · exact HB.out j h3 h2
                      · have : j = i := by omega
                        subst this
                        rw [HA.out]
                        exact FIN.out (fun h => absurd h HD1.out) (fun h => absurd h HD2.out)
      · obtain rfl : i = 31 := by omega
        have hl30 : ¬ (l.length : Int) ≤ 30 := by omega
        go_wp2_with fail
        go_ret
        exact FineP.no rfl (HWW.out)
    · obtain rfl : i = l.length := by omega
      by_cases h30 : (l.length : Int) ≤ 30
      · have H30 := hid (show l.length ≤ 30 by omega)
        go_wp2_with fail
        go_ret
        refine FineP.yes rfl HWW.out H30.out fun a ha => ?_
        obtain ⟨j, hj, rfl⟩ := List.mem_iff_getElem.mp ha
        exact HB.out j hj hj
      · go_wp2_with fail
        go_ret
        exact FineP.no rfl (HWW.out)
end Go.Proofs.Ytkfohickmdkplaa
