/-
  The document's Same of instructions.
-/
import Derived.Test.YtbllpajibhiobaaDoorJ3
namespace Go.Proofs.YtbllpajibhiobaaDoor
open Go.RowKit Go.Proofs.Leb Go.Proofs.Own
set_option maxRecDepth 100000
set_option maxHeartbeats 8000000

theorem rSame_any (a b : Ins) (la lb' : Value) (w : World) (h1 : RdM .u32 w la a.li) (h2 : RdM .u32 w lb' b.li) (s1 : a.li.length ≤ 1000000) (s2 : b.li.length ≤ 1000000) :
    Calls Tryd.prog 31 #[rI a la, rI b lb'] w (SameP (a = b) w) := by
  obtain ⟨p, c, k, t, i, x, y, li, n, raw, lane, ty⟩ := a
  obtain ⟨p', c', k', t', i', x', y', li', n', raw', lane', ty'⟩ := b
  unfold rI
  simp only at *
  have HR1 := hid h1
  have HR2 := hid h2
  obtain ⟨a1, c1, rfl⟩ := h1.shape
  obtain ⟨a2, c2, rfl⟩ := h2.shape
  clear h1 h2
  have HN := hid (fun o o' => ((Upd.refl (fun _ => False) w).alloc o).alloc o')
  by_cases hl : li.length = li'.length
  · have hb : (((li.length : Nat) : Int) != ((li'.length : Nat) : Int)) = false := by simp [hl]
    have HL := hid hl
    clear hl
    go_enter Tryd.func31, Tryd.ntmps31
    go_wp2_with fail
    obtain ⟨w0, hw0⟩ : ∃ w0, (w.alloc (.cells #[.int .u8 p, .int .u32 c, .int .i64 k, .int .u8 t, .int .u32 i, .int .u32 x, .int .u32 y, .slice a1 li.length c1, .int .i64 n, .string raw, .int .u8 lane, .string ty] 98)).alloc (.cells #[.int .u8 p', .int .u32 c', .int .i64 k', .int .u8 t', .int .u32 i', .int .u32 x', .int .u32 y', .slice a2 li'.length c2, .int .i64 n', .string raw', .int .u8 lane', .string ty'] 98) = w0 := ⟨_, rfl⟩
    rw [hw0]
    have hn0 : New w w0 := by rw [← hw0]; exact HN.out _ _
    have HZ : Hid (w0.heap[w.heap.size]? = some (.cells #[.int .u8 p, .int .u32 c, .int .i64 k, .int .u8 t, .int .u32 i, .int .u32 x, .int .u32 y, .slice a1 li.length c1, .int .i64 n, .string raw, .int .u8 lane, .string ty] 98)) := by
      show _ = _
      rw [← hw0]; exact hp_old (by simp) (hp_new rfl)
    have HZ2 : Hid (w0.heap[w.heap.size + 1]? = some (.cells #[.int .u8 p', .int .u32 c', .int .i64 k', .int .u8 t', .int .u32 i', .int .u32 x', .int .u32 y', .slice a2 li'.length c2, .int .i64 n', .string raw', .int .u8 lane', .string ty'] 98)) := by
      show _ = _
      rw [← hw0]; exact hp_new (by simp)
    clear hw0
    go_loopw [5] (fun c wr => ∃ j : Nat, c = .int .i64 j ∧ j ≤ li.length ∧ li.take j = li'.take j ∧ New w0 wr) (fun c _ => li.length - (intOf c).toNat)
    case atStart => exact ⟨0, rfl, by omega, by simp, Upd.refl _ _⟩
    case round =>
      obtain ⟨j, rfl, hj1, hj2, hnw⟩ := hrel
      have HN0 := hid hn0
      have HW := hid hnw
      have g1 := hp1 HZ.out hnw
      have g2 := hp1 HZ2.out hnw
      have z1 : wr.cell? ⟨w.heap.size, 7, none⟩ = some (.slice a1 li.length c1) := cellAt g1 7 rfl
      have z2 : wr.cell? ⟨w.heap.size + 1, 7, none⟩ = some (.slice a2 li'.length c2) := cellAt g2 7 rfl
      by_cases hi : j < li.length
      · have hi' : j < li'.length := by have := HL.out; omega
        obtain ⟨a1', c1', e, hcap, hn, hcell⟩ := HR1.out
        cases e
        obtain ⟨b, o, rfl, hce⟩ := hcell (by intro h; subst h; simp at hi)
        obtain ⟨a2', c2', e, hcap2, hn2, hcell2⟩ := HR2.out
        cases e
        obtain ⟨b2, o2, rfl, hce2⟩ := hcell2 (by intro h; subst h; simp at hi')
        have hc1 := hnw.cell (hn0.cell (hce j hi) (fun h => h)) (fun h => h)
        have hc2' := hnw.cell (hn0.cell (hce2 j hi') (fun h => h)) (fun h => h)
        have hg1 : li[j]? = some li[j] := List.getElem?_eq_getElem hi
        have hg2 : li'[j]? = some li'[j] := List.getElem?_eq_getElem hi'
        generalize hxe : li[j] = u at *
        generalize hye : li'[j] = v at *
        have HG1 := hid hg1
        have HG2 := hid hg2
        have HI := hid hj2
        clear hg1 hg2 hj2 hxe hye hce hce2 hcell hcell2 hnw hn0 g1 g2
        by_cases hpq : u = v
        · subst hpq
          have hb2 : (((u : Nat) : Int) != ((u : Nat) : Int)) = false := by simp
          go_wp2_with fail
          go_quiet (fail)
          go_wp2_with fail
          go_roundw
          case rel => exact ⟨j + 1, by go_num, by omega, take_eq_step HI.out HG1.out HG2.out, New.trans HW.out (new_drewN _ _)⟩
          case measure => simp [intOf]; omega
        · have hb2 : (((u : Nat) : Int) != ((v : Nat) : Int)) = true := by simp; omega
          have HP := hid hpq
          go_wp2_with fail
          go_quiet (fail)
          go_wp2_with fail
          go_ret
          refine ⟨false, rfl, ⟨(fun h => by cases h), (fun h => ?_)⟩, New.trans HN0.out (New.trans HW.out (new_drewN _ _))⟩
          injection h with _ _ _ _ _ _ _ h
          exact absurd h (get_ne HG1.out HG2.out HP.out)
      · have e : j = li.length := by omega
        subst e
        have HI : Hid (li = li') := by
          show li = li'
          have hl := HL.out
          rw [hl] at hj2
          rw [← hl, List.take_length, hl, List.take_length] at hj2
          exact hj2
        clear hj2 hnw hn0
        have y0 : wr.cell? ⟨w.heap.size, 0, none⟩ = some (.int .u8 p) := cellAt g1 0 rfl
        have y1 : wr.cell? ⟨w.heap.size, 1, none⟩ = some (.int .u32 c) := cellAt g1 1 rfl
        have y2 : wr.cell? ⟨w.heap.size, 2, none⟩ = some (.int .i64 k) := cellAt g1 2 rfl
        have y3 : wr.cell? ⟨w.heap.size, 3, none⟩ = some (.int .u8 t) := cellAt g1 3 rfl
        have y4 : wr.cell? ⟨w.heap.size, 4, none⟩ = some (.int .u32 i) := cellAt g1 4 rfl
        have y5 : wr.cell? ⟨w.heap.size, 5, none⟩ = some (.int .u32 x) := cellAt g1 5 rfl
        have y6 : wr.cell? ⟨w.heap.size, 6, none⟩ = some (.int .u32 y) := cellAt g1 6 rfl
        have y8 : wr.cell? ⟨w.heap.size, 8, none⟩ = some (.int .i64 n) := cellAt g1 8 rfl
        have y9 : wr.cell? ⟨w.heap.size, 9, none⟩ = some (.string raw) := cellAt g1 9 rfl
        have y10 : wr.cell? ⟨w.heap.size, 10, none⟩ = some (.int .u8 lane) := cellAt g1 10 rfl
        have y11 : wr.cell? ⟨w.heap.size, 11, none⟩ = some (.string ty) := cellAt g1 11 rfl
        have x0 : wr.cell? ⟨w.heap.size + 1, 0, none⟩ = some (.int .u8 p') := cellAt g2 0 rfl
        have x1 : wr.cell? ⟨w.heap.size + 1, 1, none⟩ = some (.int .u32 c') := cellAt g2 1 rfl
        have x2 : wr.cell? ⟨w.heap.size + 1, 2, none⟩ = some (.int .i64 k') := cellAt g2 2 rfl
        have x3 : wr.cell? ⟨w.heap.size + 1, 3, none⟩ = some (.int .u8 t') := cellAt g2 3 rfl
        have x4 : wr.cell? ⟨w.heap.size + 1, 4, none⟩ = some (.int .u32 i') := cellAt g2 4 rfl
        have x5 : wr.cell? ⟨w.heap.size + 1, 5, none⟩ = some (.int .u32 x') := cellAt g2 5 rfl
        have x6 : wr.cell? ⟨w.heap.size + 1, 6, none⟩ = some (.int .u32 y') := cellAt g2 6 rfl
        have x8 : wr.cell? ⟨w.heap.size + 1, 8, none⟩ = some (.int .i64 n') := cellAt g2 8 rfl
        have x9 : wr.cell? ⟨w.heap.size + 1, 9, none⟩ = some (.string raw') := cellAt g2 9 rfl
        have x10 : wr.cell? ⟨w.heap.size + 1, 10, none⟩ = some (.int .u8 lane') := cellAt g2 10 rfl
        have x11 : wr.cell? ⟨w.heap.size + 1, 11, none⟩ = some (.string ty') := cellAt g2 11 rfl
        clear g1 g2 HZ HZ2 HR1 HR2
        go_wp2_with fail
        all_goals go_ret
        all_goals refine ⟨_, rfl, ?_, New.trans HN0.out HW.out⟩
        all_goals have hl := HI.out
        all_goals subst hl
        all_goals first
          | (refine ⟨(fun h => by cases h), (fun h => ?_)⟩
             first | (injection h; contradiction) | (exfalso; simp_all))
          | (subst_vars
             exact same_end (by assumption))
  · have hb : (((li.length : Nat) : Int) != ((li'.length : Nat) : Int)) = true := by simp; omega
    have HL := hid hl
    clear hl
    go_enter Tryd.func31, Tryd.ntmps31
    go_wp2_with fail
    go_ret
    refine ⟨false, rfl, ⟨(fun h => by cases h), (fun h => ?_)⟩, HN.out _ _⟩
    injection h with _ _ _ _ _ _ _ h
    exact absurd (congrArg List.length h) HL.out
end Go.Proofs.YtbllpajibhiobaaDoor
