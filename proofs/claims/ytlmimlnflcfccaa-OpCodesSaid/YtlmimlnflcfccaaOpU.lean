/-
  The walks of ops: spans behind; Put.
-/
import Derived.Test.YtlmimlnflcfccaaOpT
import Derived.Test.YtlmimlnflcfccaaSpnA
import Derived.Test.YtlmimlnflcfccaaLebP
import Derived.Test.YtlmimlnflcfccaaLebA
namespace Go.Proofs.Ytlmimlnflcfccaa
open Go.RowKit Go.Proofs.Own Go.Proofs.Leb
set_option maxRecDepth 100000
set_option maxHeartbeats 4000000

def SpanP (r : Int × Int) (w : World) (e : Ending) (w' : World) : Prop := e = .returned (.agg #[.int .i64 r.1, .int .i64 r.2]) ∧ New w w'

theorem spanV_at : ∀ k : Fin 19, spanV k.val = (leastT.getD k.val 0, mostT.getD k.val 0) := by decide
theorem spanV_0 : spanV 0 = (0, 0) := by unfold spanV; rw [if_neg (by omega)]; rfl
theorem spanV_1 : spanV 1 = (1, 5) := by unfold spanV; rw [if_neg (by omega)]; rfl
theorem spanV_2 : spanV 2 = (1, 5) := by unfold spanV; rw [if_neg (by omega)]; rfl
theorem spanV_3 : spanV 3 = (2, 10) := by unfold spanV; rw [if_neg (by omega)]; rfl
theorem spanV_4 : spanV 4 = (2, 1099511627776) := by unfold spanV; rw [if_neg (by omega)]; rfl
theorem spanV_5 : spanV 5 = (2, 10) := by unfold spanV; rw [if_neg (by omega)]; rfl
theorem spanV_6 : spanV 6 = (1, 1) := by unfold spanV; rw [if_neg (by omega)]; rfl
theorem spanV_7 : spanV 7 = (2, 2) := by unfold spanV; rw [if_neg (by omega)]; rfl
theorem spanV_8 : spanV 8 = (2, 6) := by unfold spanV; rw [if_neg (by omega)]; rfl
theorem spanV_9 : spanV 9 = (1, 5) := by unfold spanV; rw [if_neg (by omega)]; rfl
theorem spanV_10 : spanV 10 = (1, 10) := by unfold spanV; rw [if_neg (by omega)]; rfl
theorem spanV_11 : spanV 11 = (4, 4) := by unfold spanV; rw [if_neg (by omega)]; rfl
theorem spanV_12 : spanV 12 = (8, 8) := by unfold spanV; rw [if_neg (by omega)]; rfl
theorem spanV_13 : spanV 13 = (16, 16) := by unfold spanV; rw [if_neg (by omega)]; rfl
theorem spanV_14 : spanV 14 = (16, 16) := by unfold spanV; rw [if_neg (by omega)]; rfl
theorem spanV_15 : spanV 15 = (1, 1) := by unfold spanV; rw [if_neg (by omega)]; rfl
theorem spanV_16 : spanV 16 = (3, 11) := by unfold spanV; rw [if_neg (by omega)]; rfl
theorem spanV_17 : spanV 17 = (1, 1) := by unfold spanV; rw [if_neg (by omega)]; rfl
theorem spanV_18 : spanV 18 = (1, 1099511627776) := by unfold spanV; rw [if_neg (by omega)]; rfl
theorem infoSpan_any (s l : Int) (w : World) : Calls Try.prog 53 #[.agg #[.int .i64 s, .int .i64 l]] w (SpanP (spanV s) w) := by
  obtain ⟨r, hr⟩ : ∃ r, spanV s = r := ⟨_, rfl⟩
  rw [hr]
  have HS := hid hr
  clear hr
  go_enter Try.func53, Try.ntmps53
  go_wp2_with fail
  all_goals
    refine ret_agg rfl Try.underlying48 rfl (w.heap.size + 1) _ _ ?_ rfl rfl (hp_new (by simp)) ?_
    · kernel_rfl
    · have hv : Hid (r = spanV s) := HS.out.symm
      clear HS
      simp only [beq_iff_eq, beq_eq_false_iff_ne, ne_eq] at *
      first
        | (have hs : s = 1 := by assumption
           rw [hv.out, hs, spanV_1]
           exact ⟨rfl, ((Upd.refl _ _).alloc _).alloc _⟩)
        | (have hs : s = 2 := by assumption
           rw [hv.out, hs, spanV_2]
           exact ⟨rfl, ((Upd.refl _ _).alloc _).alloc _⟩)
        | (have hs : s = 3 := by assumption
           rw [hv.out, hs, spanV_3]
           exact ⟨rfl, ((Upd.refl _ _).alloc _).alloc _⟩)
        | (have hs : s = 4 := by assumption
           rw [hv.out, hs, spanV_4]
           exact ⟨rfl, ((Upd.refl _ _).alloc _).alloc _⟩)
        | (have hs : s = 5 := by assumption
           rw [hv.out, hs, spanV_5]
           exact ⟨rfl, ((Upd.refl _ _).alloc _).alloc _⟩)
        | (have hs : s = 6 := by assumption
           rw [hv.out, hs, spanV_6]
           exact ⟨rfl, ((Upd.refl _ _).alloc _).alloc _⟩)
        | (have hs : s = 7 := by assumption
           rw [hv.out, hs, spanV_7]
           exact ⟨rfl, ((Upd.refl _ _).alloc _).alloc _⟩)
        | (have hs : s = 8 := by assumption
           rw [hv.out, hs, spanV_8]
           exact ⟨rfl, ((Upd.refl _ _).alloc _).alloc _⟩)
        | (have hs : s = 9 := by assumption
           rw [hv.out, hs, spanV_9]
           exact ⟨rfl, ((Upd.refl _ _).alloc _).alloc _⟩)
        | (have hs : s = 10 := by assumption
           rw [hv.out, hs, spanV_10]
           exact ⟨rfl, ((Upd.refl _ _).alloc _).alloc _⟩)
        | (have hs : s = 11 := by assumption
           rw [hv.out, hs, spanV_11]
           exact ⟨rfl, ((Upd.refl _ _).alloc _).alloc _⟩)
        | (have hs : s = 12 := by assumption
           rw [hv.out, hs, spanV_12]
           exact ⟨rfl, ((Upd.refl _ _).alloc _).alloc _⟩)
        | (have hs : s = 13 := by assumption
           rw [hv.out, hs, spanV_13]
           exact ⟨rfl, ((Upd.refl _ _).alloc _).alloc _⟩)
        | (have hs : s = 14 := by assumption
           rw [hv.out, hs, spanV_14]
           exact ⟨rfl, ((Upd.refl _ _).alloc _).alloc _⟩)
        | (have hs : s = 15 := by assumption
           rw [hv.out, hs, spanV_15]
           exact ⟨rfl, ((Upd.refl _ _).alloc _).alloc _⟩)
        | (have hs : s = 16 := by assumption
           rw [hv.out, hs, spanV_16]
           exact ⟨rfl, ((Upd.refl _ _).alloc _).alloc _⟩)
        | (have hs : s = 17 := by assumption
           rw [hv.out, hs, spanV_17]
           exact ⟨rfl, ((Upd.refl _ _).alloc _).alloc _⟩)
        | (have hs : s = 18 := by assumption
           rw [hv.out, hs, spanV_18]
           exact ⟨rfl, ((Upd.refl _ _).alloc _).alloc _⟩)
        | (refine ⟨?_, ((Upd.refl _ _).alloc _).alloc _⟩
           have e : spanV s = (0, 0) := by
             by_cases h0 : s = 0
             · rw [h0, spanV_0]
             · exact if_pos (by omega)
           rw [hv.out, e])

theorem cells19 (w w' : World) (vs : List Int) (cs : Array Value) (t : TypeId) (hcs : cs = (vs.map fun n => Value.int .i64 n).toArray) (hn : New (w.alloc (.cells cs t)) w') (i : Nat) (h : i < vs.length) : w'.cell? ⟨w.heap.size, i, none⟩ = some (.int .i64 (vs.getD i 0)) := by
  subst hcs
  have := hn.cell (cellList w vs t i h) (fun h => h)
  rw [this]
  simp [List.getD_eq_getElem?_getD, List.getElem?_eq_getElem h]

theorem rSpan_any (s : Int) (w : World) : Calls Try.prog 54 #[.int .i64 s] w (SpanP (spanV s) w) := by
  obtain ⟨r, hr⟩ : ∃ r, spanV s = r := ⟨_, rfl⟩
  rw [hr]
  have HS := hid hr
  clear hr
  by_cases h1 : s < 0
  · have hv : Hid (r = (0, 0)) := by show _ = _; rw [← HS.out]; exact if_pos (.inl h1)
    go_enter Try.func54, Try.ntmps54
    go_wp2_with fail
    refine ret_agg rfl Try.underlying46 rfl w.heap.size #[.int .i64 0, .int .i64 0] 46 (by kernel_rfl) rfl rfl ?_ ?_
    · repeat (first | (refine hp_new ?_; simp; done) | (refine hp_old ?_ ?_; · (simp <;> omega)))
    · exact ⟨by rw [hv.out], by repeat (first | exact Upd.refl _ _ | apply Upd.alloc)⟩
  · by_cases h2 : 18 < s
    · have hv : Hid (r = (0, 0)) := by show _ = _; rw [← HS.out]; exact if_pos (.inr h2)
      have d1 : decide (s < 0) = false := decide_eq_false h1
      go_enter Try.func54, Try.ntmps54
      go_wp2_with fail
      refine ret_agg rfl Try.underlying46 rfl w.heap.size #[.int .i64 0, .int .i64 0] 46 (by kernel_rfl) rfl rfl ?_ ?_
      · repeat (first | (refine hp_new ?_; simp; done) | (refine hp_old ?_ ?_; · (simp <;> omega)))
      · exact ⟨by rw [hv.out], by repeat (first | exact Upd.refl _ _ | apply Upd.alloc)⟩
    · obtain ⟨k, rfl⟩ : ∃ k : Nat, s = k := ⟨s.toNat, by omega⟩
      have hk : k < 19 := by omega
      have hv : Hid (r = (leastT.getD k 0, mostT.getD k 0)) := by show _ = _; rw [← HS.out]; exact spanV_at ⟨k, hk⟩
      obtain ⟨lo, hlo⟩ : ∃ lo, leastT.getD k 0 = lo := ⟨_, rfl⟩
      obtain ⟨hi, hhi⟩ : ∃ hi, mostT.getD k 0 = hi := ⟨_, rfl⟩
      rw [hlo, hhi] at hv
      obtain ⟨w1, hw1⟩ : ∃ w1, w.alloc (.cells #[.int .i64 0, .int .i64 0] 46) = w1 := ⟨_, rfl⟩
      obtain ⟨w3, hw3⟩ : ∃ w3, (w1.alloc (.cells (mostT.map fun n => Value.int .i64 n).toArray 3)).alloc (.cells (leastT.map fun n => Value.int .i64 n).toArray 3) = w3 := ⟨_, rfl⟩
      have HB : Hid (Blk w3 w.heap.size (.int .i64 0) (.int .i64 0) 46) := by
        show Blk _ _ _ _ _
        rw [← hw3, ← hw1]
        exact Blk.new Blk.mk (((Upd.refl _ _).alloc _).alloc _)
      have HN : Hid (New w w3) := by show New _ _; rw [← hw3, ← hw1]; exact (((Upd.refl _ _).alloc _).alloc _).alloc _
      have HM : Hid (w3.cell? ⟨w.heap.size + 1, k, none⟩ = some (.int .i64 hi)) := by
        show _ = _
        have := cells19 w1 w3 mostT _ 3 rfl (by rw [← hw3]; exact (Upd.refl _ _).alloc _) k hk
        rw [← hw1, World.size_alloc, hhi] at this
        exact this
      have HL : Hid (w3.cell? ⟨w.heap.size + 1 + 1, k, none⟩ = some (.int .i64 lo)) := by
        show _ = _
        have := cells19 (w1.alloc (.cells (mostT.map fun n => Value.int .i64 n).toArray 3)) w3 leastT _ 3 rfl (by rw [hw3]; exact Upd.refl _ _) k hk
        rw [← hw1, World.size_alloc, World.size_alloc, hlo] at this
        exact this
      have HW3 : Hid (((w.alloc (.cells #[.int .i64 0, .int .i64 0] 46)).alloc (.cells #[.int .i64 0, .int .i64 5, .int .i64 5, .int .i64 10, .int .i64 1099511627776, .int .i64 10, .int .i64 1, .int .i64 2, .int .i64 6, .int .i64 5, .int .i64 10, .int .i64 4, .int .i64 8, .int .i64 16, .int .i64 16, .int .i64 1, .int .i64 11, .int .i64 1, .int .i64 1099511627776] 3)).alloc (.cells #[.int .i64 0, .int .i64 1, .int .i64 1, .int .i64 2, .int .i64 2, .int .i64 2, .int .i64 1, .int .i64 2, .int .i64 2, .int .i64 1, .int .i64 1, .int .i64 4, .int .i64 8, .int .i64 16, .int .i64 16, .int .i64 1, .int .i64 3, .int .i64 1, .int .i64 1] 3) = w3) := by
        show _ = _
        rw [← hw3, ← hw1]
        rfl
      have hk2 : (k : Int) < 19 := by omega
      have hwk : IntKind.i64.wrap (k : Int) = k := IntWalk.i64_in _ (by omega)
      clear hw1 hw3 hlo hhi h1 h2 HS
      go_enter Try.func54, Try.ntmps54
      go_wp2_with fail
      rw [HW3.out]
      have hn : Upd (fun k => k = w.heap.size) w3 w3.drew := (Upd.refl _ _).drew
      refine wp_region_noPanic ?_
      refine wp_region_held_drew (S := (Upd (fun k => k = w.heap.size) w3)) (by kernel_rfl) (by first | exact hn | exact (Upd.refl _ _).drew | exact Upd.drew (by assumption)) (fun hn => ?_)
      refine wpAnyH_take (i := 0) (oi := { dst := some 14, op := Op.move (Operand.tmp 4), type := 60, pos := "ref.go:104", after := #[], guard := none }) (v := ?v31x1) rfl (by kernel_rfl) (by kernel_rfl) (by kernel_rfl) (fun _ _ _ h => h) (Or.inl ⟨by rfl, ?y31x1⟩) hn ?r31x1
      case y31x1 => (intro wS hS; (try go_simp); (try with_reducible rfl))
      try simp only [Act.put, List.setIfInBounds_toArray, List.set_cons_zero, List.set_cons_succ]
      refine wpAnyH_take (i := 1) (oi := { dst := some 15, op := Op.move (Operand.tmp 0), type := 3, pos := "ref.go:104", after := #[], guard := none }) (v := ?v31x2) rfl (by kernel_rfl) (by kernel_rfl) (by kernel_rfl) (fun _ _ _ h => h) (Or.inl ⟨by rfl, ?y31x2⟩) hn ?r31x2
      case y31x2 => (intro wS hS; (try go_simp); (try with_reducible rfl))
      try simp only [Act.put, List.setIfInBounds_toArray, List.set_cons_zero, List.set_cons_succ]
      refine wpAnyH_take (i := 2) (oi := { dst := some 16, op := Op.indexAddr 60 (Operand.tmp 14) (Operand.tmp 15), type := 0, pos := "ref.go:104", after := #[{ on := 0, ground := Ground.data }, { on := 1, ground := Ground.data }], guard := none }) (v := ?v31x3) rfl (by kernel_rfl) (by kernel_rfl) (by kernel_rfl) (fun _ _ _ h => h) (Or.inl ⟨by rfl, ?y31x3⟩) hn ?r31x3
      case y31x3 => (intro wS hS; (try go_simp); (try with_reducible rfl))
      try simp only [Act.put, List.setIfInBounds_toArray, List.set_cons_zero, List.set_cons_succ]
      refine wpAnyH_take (i := 3) (oi := { dst := some 17, op := Op.load 3 (Operand.tmp 16), type := 3, pos := "ref.go:104", after := #[{ on := 2, ground := Ground.data }], guard := none }) (v := ?v31x4) rfl (by kernel_rfl) (by kernel_rfl) (by kernel_rfl) (fun _ _ _ h => h) (Or.inl ⟨by rfl, ?y31x4⟩) hn ?r31x4
      case y31x4 => (intro wS hS; have c0 := hS.cell HL.out (fun h => by dsimp only at h; omega); (try go_simp); (try with_reducible rfl))
      try simp only [Act.put, List.setIfInBounds_toArray, List.set_cons_zero, List.set_cons_succ]
      refine wpAnyH_take (i := 4) (oi := { dst := some 18, op := Op.move (Operand.tmp 3), type := 60, pos := "ref.go:104", after := #[], guard := none }) (v := ?v31x5) rfl (by kernel_rfl) (by kernel_rfl) (by kernel_rfl) (fun _ _ _ h => h) (Or.inl ⟨by rfl, ?y31x5⟩) hn ?r31x5
      case y31x5 => (intro wS hS; (try go_simp); (try with_reducible rfl))
      try simp only [Act.put, List.setIfInBounds_toArray, List.set_cons_zero, List.set_cons_succ]
      refine wpAnyH_take (i := 5) (oi := { dst := some 19, op := Op.move (Operand.tmp 0), type := 3, pos := "ref.go:104", after := #[], guard := none }) (v := ?v31x6) rfl (by kernel_rfl) (by kernel_rfl) (by kernel_rfl) (fun _ _ _ h => h) (Or.inl ⟨by rfl, ?y31x6⟩) hn ?r31x6
      case y31x6 => (intro wS hS; (try go_simp); (try with_reducible rfl))
      try simp only [Act.put, List.setIfInBounds_toArray, List.set_cons_zero, List.set_cons_succ]
      refine wpAnyH_take (i := 6) (oi := { dst := some 20, op := Op.indexAddr 60 (Operand.tmp 18) (Operand.tmp 19), type := 0, pos := "ref.go:104", after := #[{ on := 4, ground := Ground.data }, { on := 5, ground := Ground.data }], guard := none }) (v := ?v31x7) rfl (by kernel_rfl) (by kernel_rfl) (by kernel_rfl) (fun _ _ _ h => h) (Or.inl ⟨by rfl, ?y31x7⟩) hn ?r31x7
      case y31x7 => (intro wS hS; (try go_simp); (try with_reducible rfl))
      try simp only [Act.put, List.setIfInBounds_toArray, List.set_cons_zero, List.set_cons_succ]
      refine wpAnyH_take (i := 7) (oi := { dst := some 21, op := Op.load 3 (Operand.tmp 20), type := 3, pos := "ref.go:104", after := #[{ on := 6, ground := Ground.data }], guard := none }) (v := ?v31x8) rfl (by kernel_rfl) (by kernel_rfl) (by kernel_rfl) (fun _ _ _ h => h) (Or.inl ⟨by rfl, ?y31x8⟩) hn ?r31x8
      case y31x8 => (intro wS hS; have c0 := hS.cell HM.out (fun h => by dsimp only at h; omega); (try go_simp); (try with_reducible rfl))
      try simp only [Act.put, List.setIfInBounds_toArray, List.set_cons_zero, List.set_cons_succ]
      refine wpAnyH_take (i := 8) (oi := { dst := some 22, op := Op.build 46 #[(0, Operand.tmp 17), (1, Operand.tmp 21)], type := 46, pos := "ref.go:104", after := #[{ on := 3, ground := Ground.data }, { on := 7, ground := Ground.data }], guard := none }) (v := ?v31x9) rfl (by kernel_rfl) (by kernel_rfl) (by kernel_rfl) (fun _ _ _ h => h) (Or.inl ⟨by rfl, ?y31x9⟩) hn ?r31x9
      case y31x9 => (intro wS hS; (try go_simp); (try with_reducible rfl))
      try simp only [Act.put, List.setIfInBounds_toArray, List.set_cons_zero, List.set_cons_succ]
      refine wpAnyH_ready (rs := [9]) (by kernel_rfl) (by simp) ?_
      refine AllReadyH.cons (o := { dst := none, op := Op.store 46 (Operand.tmp 2) (Operand.tmp 22), type := 0, pos := "ref.go:104", after := #[{ on := 8, ground := Ground.data }, { on := 0, ground := Ground.phase }, { on := 1, ground := Ground.phase }, { on := 2, ground := Ground.phase }, { on := 3, ground := Ground.phase }, { on := 4, ground := Ground.phase }, { on := 5, ground := Ground.phase }, { on := 6, ground := Ground.phase }, { on := 7, ground := Ground.phase }, { on := 8, ground := Ground.phase }], guard := none }) rfl (fun K hK => ?_) AllReadyH.nil
      have hb := HB.out
      have z0 := hb.c0
      have z1 := hb.c1
      have f0 := hb.f 0
      have f1 := hb.f 1
      go_simp
      refine hK.out _ _ (by first | exact hn | exact Upd.alloc hn _ | (exact Upd.drew (Upd.setCell (Upd.setCell (Upd.refl (fun k => k = w.heap.size) w3) (.inr rfl) _) (.inr rfl) _))) (fun hn => ?_)
      clear hK K
      try simp only [Act.put, List.setIfInBounds_toArray, List.set_cons_zero, List.set_cons_succ]
      refine wpAnyH_done (by kernel_rfl) ?_ _
      refine NoPanic.normal ?_
      go_wp2_with fail
      refine ret_agg rfl Try.underlying46 rfl w.heap.size _ _ ?_ rfl rfl (Blk.put hb) ⟨?_, ?_⟩
      · kernel_rfl
      · rw [hv.out]
      · exact Upd.trans HN.out hn (fun i hi e => by omega)

end Go.Proofs.Ytlmimlnflcfccaa
