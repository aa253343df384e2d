/-
  InstrPuts: for every input the law returns true, and what it was handed reads as it did. No condition.
-/
import Derived.Test.YtnngibflnnmioaaRows
import Derived.Test.YtnngibflnnmioaaIpg
import Derived.ProofKit
import Derived.OpenShut
import Derived.ShutString
import Derived.ChangeOld
import Derived.Below
import Derived.Lib.SmallJoins
namespace Go.Proofs.Ytnngibflnnmioaa.instrPuts
open Go.ChangeShapes Go.WideShapes Go.ChangeAt Go.RowKit Go.Proofs.Own
open Go.ChangeMaps (open_string shut_string)

theorem own : ownKnob Try.prog.godebug = none := by kernel_rfl
theorem laidOut : laidOutB Try.prog = true := by kernel_rfl

set_option maxRecDepth 100000 in
theorem lifted (os : Os) (started : os.Started) (H : Type) (enc : TypeId × Value → H) :
    ReturnsInHanded {} Try.checked os 3 .any (Rows.instrPutsSpec.pre6 enc Try.prog Try.f3 Rows.instrPutsRow.domain false) (Rows.instrPutsSpec.post enc Try.prog Try.f3 false true false false) := by
  refine returnsInHanded_of_change (C := Try.checked) own started (by kernel_rfl) Try.func3
    (ChangeSpec.witness6 (enc := enc) (C := Try.checked) false ⟨#[], #[.agg #[.int .u8 0, .int .u32 0, .int .i64 0, .int .u8 0, .int .u32 0, .int .u32 0, .int .u32 0, .slice none 0 0, .int .i64 0, .string ByteArray.empty, .int .u8 0, .string ByteArray.empty], .agg #[.int .u8 0, .int .u32 0, .int .i64 0, .int .u8 0, .int .u32 0, .int .u32 0, .int .u32 0, .slice none 0 0, .int .i64 0, .string ByteArray.empty, .int .u8 0, .string ByteArray.empty]], []⟩ 8 (by kernel_rfl) (by kernel_rfl) (by kernel_rfl) (by kernel_rfl)) ?_
  intro W base args ds gs before hval0 hW hcnd _
  have hval : ∀ (j : Nat) t v, Try.f3.params[j]? = some t → args[j]? = some v → Value.okWide Try.prog W .any base t v := hval0
  have hW' := hW
  obtain ⟨p, q, hA0, hV, rfl, hfz, hnd⟩ := hW
  have hA : DataW.TrodAll enc Try.prog W 0 (fun _ => true) true Try.f3.params.toList args.toList ds p := hA0
  rw [Try.params3] at hA hval
  obtain ⟨v0, vs0, d0, ds0, p0, q0, hargs, rfl, rfl, h0, r0⟩ := trodAll_cons hA
  obtain ⟨v1, vs1, d1, ds1, p1, q1, rfl, rfl, rfl, h1, r1⟩ := trodAll_cons r0
  obtain ⟨rfl, rfl, rfl⟩ := trodAll_nil r1
  obtain rfl : args = #[v0, v1] := by cases args; simp_all
  obtain ⟨rfl, rfl⟩ := trodVars_none hV
  have k0 := h0
  have lt0 : ∀ x ∈ p0, x.block < W.heap.size := by obtain ⟨m, hm⟩ := k0; exact DataW.trod_lt m _ _ _ hm
  obtain ⟨V0, Y0, n0, rfl, s0, _, rfl, rfl, f0⟩ := open_aggs Try.underlying25 (by kernel_rfl) (by kernel_rfl) (hval 0 25 v0 rfl rfl) h0
  obtain ⟨u0_0, u0_1, u0_2, u0_3, u0_4, u0_5, u0_6, u0_7, u0_8, u0_9, u0_10, u0_11, rfl⟩ := array12 s0
  obtain ⟨y0_0, _, g0_0⟩ := f0 0 _ _ rfl rfl
  obtain ⟨a0_0, e0_0, _, w0_0⟩ := DataW.trod_int Try.underlying5 g0_0
  obtain rfl : u0_0 = _ := by simpa using e0_0
  obtain ⟨y0_1, _, g0_1⟩ := f0 1 _ _ rfl rfl
  obtain ⟨a0_1, e0_1, _, w0_1⟩ := DataW.trod_int Try.underlying22 g0_1
  obtain rfl : u0_1 = _ := by simpa using e0_1
  obtain ⟨y0_2, _, g0_2⟩ := f0 2 _ _ rfl rfl
  obtain ⟨a0_2, e0_2, _, w0_2⟩ := DataW.trod_int Try.underlying3 g0_2
  obtain rfl : u0_2 = _ := by simpa using e0_2
  obtain ⟨y0_3, _, g0_3⟩ := f0 3 _ _ rfl rfl
  obtain ⟨a0_3, e0_3, _, w0_3⟩ := DataW.trod_int Try.underlying5 g0_3
  obtain rfl : u0_3 = _ := by simpa using e0_3
  obtain ⟨y0_4, _, g0_4⟩ := f0 4 _ _ rfl rfl
  obtain ⟨a0_4, e0_4, _, w0_4⟩ := DataW.trod_int Try.underlying22 g0_4
  obtain rfl : u0_4 = _ := by simpa using e0_4
  obtain ⟨y0_5, _, g0_5⟩ := f0 5 _ _ rfl rfl
  obtain ⟨a0_5, e0_5, _, w0_5⟩ := DataW.trod_int Try.underlying22 g0_5
  obtain rfl : u0_5 = _ := by simpa using e0_5
  obtain ⟨y0_6, _, g0_6⟩ := f0 6 _ _ rfl rfl
  obtain ⟨a0_6, e0_6, _, w0_6⟩ := DataW.trod_int Try.underlying22 g0_6
  obtain rfl : u0_6 = _ := by simpa using e0_6
  obtain ⟨y0_7, _, g0_7⟩ := f0 7 _ _ rfl rfl
  obtain ⟨a0_7, len0_7, cap0_7, e0_7⟩ := slice_form Try.underlying23 g0_7
  obtain rfl : u0_7 = _ := by simpa using e0_7
  obtain ⟨z0_7, w0_7⟩ : ∃ zs, IsRow .u32 W a0_7 len0_7 cap0_7 zs := by
    rcases open_ints Try.underlying23 Try.underlying22 (by kernel_rfl) g0_7 with ⟨hcs, _⟩ | ⟨x, l, c, zs, hcs, _, hl, hm, hz, _, hcell, hwz⟩
    · simp at hcs
      obtain ⟨rfl, rfl, rfl⟩ := hcs
      exact ⟨[], .inl ⟨rfl, rfl, rfl, rfl⟩⟩
    · simp at hcs
      obtain ⟨rfl, rfl, rfl⟩ := hcs
      exact ⟨zs, .inr ⟨_, rfl, hl, hm, by simpa using hz, hcell, hwz⟩⟩
  obtain ⟨y0_8, _, g0_8⟩ := f0 8 _ _ rfl rfl
  obtain ⟨a0_8, e0_8, _, w0_8⟩ := DataW.trod_int Try.underlying2 g0_8
  obtain rfl : u0_8 = _ := by simpa using e0_8
  obtain ⟨y0_9, _, g0_9⟩ := f0 9 _ _ rfl rfl
  obtain ⟨a0_9, e0_9, _, w0_9⟩ := DataW.trod_string Try.underlying9 g0_9
  obtain rfl : u0_9 = _ := by simpa using e0_9
  obtain ⟨y0_10, _, g0_10⟩ := f0 10 _ _ rfl rfl
  obtain ⟨a0_10, e0_10, _, w0_10⟩ := DataW.trod_int Try.underlying5 g0_10
  obtain rfl : u0_10 = _ := by simpa using e0_10
  obtain ⟨y0_11, _, g0_11⟩ := f0 11 _ _ rfl rfl
  obtain ⟨a0_11, e0_11, _, w0_11⟩ := DataW.trod_string Try.underlying9 g0_11
  obtain rfl : u0_11 = _ := by simpa using e0_11
  have k1 := h1
  have lt1 : ∀ x ∈ p1, x.block < W.heap.size := by obtain ⟨m, hm⟩ := k1; exact DataW.trod_lt m _ _ _ hm
  obtain ⟨V1, Y1, n1, rfl, s1, _, rfl, rfl, f1⟩ := open_aggs Try.underlying25 (by kernel_rfl) (by kernel_rfl) (hval 1 25 v1 rfl rfl) h1
  obtain ⟨u1_0, u1_1, u1_2, u1_3, u1_4, u1_5, u1_6, u1_7, u1_8, u1_9, u1_10, u1_11, rfl⟩ := array12 s1
  obtain ⟨y1_0, _, g1_0⟩ := f1 0 _ _ rfl rfl
  obtain ⟨a1_0, e1_0, _, w1_0⟩ := DataW.trod_int Try.underlying5 g1_0
  obtain rfl : u1_0 = _ := by simpa using e1_0
  obtain ⟨y1_1, _, g1_1⟩ := f1 1 _ _ rfl rfl
  obtain ⟨a1_1, e1_1, _, w1_1⟩ := DataW.trod_int Try.underlying22 g1_1
  obtain rfl : u1_1 = _ := by simpa using e1_1
  obtain ⟨y1_2, _, g1_2⟩ := f1 2 _ _ rfl rfl
  obtain ⟨a1_2, e1_2, _, w1_2⟩ := DataW.trod_int Try.underlying3 g1_2
  obtain rfl : u1_2 = _ := by simpa using e1_2
  obtain ⟨y1_3, _, g1_3⟩ := f1 3 _ _ rfl rfl
  obtain ⟨a1_3, e1_3, _, w1_3⟩ := DataW.trod_int Try.underlying5 g1_3
  obtain rfl : u1_3 = _ := by simpa using e1_3
  obtain ⟨y1_4, _, g1_4⟩ := f1 4 _ _ rfl rfl
  obtain ⟨a1_4, e1_4, _, w1_4⟩ := DataW.trod_int Try.underlying22 g1_4
  obtain rfl : u1_4 = _ := by simpa using e1_4
  obtain ⟨y1_5, _, g1_5⟩ := f1 5 _ _ rfl rfl
  obtain ⟨a1_5, e1_5, _, w1_5⟩ := DataW.trod_int Try.underlying22 g1_5
  obtain rfl : u1_5 = _ := by simpa using e1_5
  obtain ⟨y1_6, _, g1_6⟩ := f1 6 _ _ rfl rfl
  obtain ⟨a1_6, e1_6, _, w1_6⟩ := DataW.trod_int Try.underlying22 g1_6
  obtain rfl : u1_6 = _ := by simpa using e1_6
  obtain ⟨y1_7, _, g1_7⟩ := f1 7 _ _ rfl rfl
  obtain ⟨a1_7, len1_7, cap1_7, e1_7⟩ := slice_form Try.underlying23 g1_7
  obtain rfl : u1_7 = _ := by simpa using e1_7
  obtain ⟨z1_7, w1_7⟩ : ∃ zs, IsRow .u32 W a1_7 len1_7 cap1_7 zs := by
    rcases open_ints Try.underlying23 Try.underlying22 (by kernel_rfl) g1_7 with ⟨hcs, _⟩ | ⟨x, l, c, zs, hcs, _, hl, hm, hz, _, hcell, hwz⟩
    · simp at hcs
      obtain ⟨rfl, rfl, rfl⟩ := hcs
      exact ⟨[], .inl ⟨rfl, rfl, rfl, rfl⟩⟩
    · simp at hcs
      obtain ⟨rfl, rfl, rfl⟩ := hcs
      exact ⟨zs, .inr ⟨_, rfl, hl, hm, by simpa using hz, hcell, hwz⟩⟩
  obtain ⟨y1_8, _, g1_8⟩ := f1 8 _ _ rfl rfl
  obtain ⟨a1_8, e1_8, _, w1_8⟩ := DataW.trod_int Try.underlying2 g1_8
  obtain rfl : u1_8 = _ := by simpa using e1_8
  obtain ⟨y1_9, _, g1_9⟩ := f1 9 _ _ rfl rfl
  obtain ⟨a1_9, e1_9, _, w1_9⟩ := DataW.trod_string Try.underlying9 g1_9
  obtain rfl : u1_9 = _ := by simpa using e1_9
  obtain ⟨y1_10, _, g1_10⟩ := f1 10 _ _ rfl rfl
  obtain ⟨a1_10, e1_10, _, w1_10⟩ := DataW.trod_int Try.underlying5 g1_10
  obtain rfl : u1_10 = _ := by simpa using e1_10
  obtain ⟨y1_11, _, g1_11⟩ := f1 11 _ _ rfl rfl
  obtain ⟨a1_11, e1_11, _, w1_11⟩ := DataW.trod_string Try.underlying9 g1_11
  obtain rfl : u1_11 = _ := by simpa using e1_11
  clear hA0 hval0
  refine (instrPuts_walk' W a0_0 a0_1 a0_2 a0_3 a0_4 a0_5 a0_6 a0_8 a0_10 a1_0 a1_1 a1_2 a1_3 a1_4 a1_5 a1_6 a1_8 a1_10 a0_9 a0_11 a1_9 a1_11 a0_7 a1_7 len0_7 cap0_7 len1_7 cap1_7 z0_7 z1_7 w0_7 w1_7 (wf_u8 w0_0) (wf_u32 w0_1) (wf_u8 w0_3) (wf_u32 w0_4) (wf_u32 w0_5) (wf_u32 w0_6) (wf_u8 w0_10) (wf_i64 w0_8)).mono fun e W' ⟨he, nw⟩ => ?_
  have bel := New.below nw
  subst he
  exact ⟨_, rfl, _, _, _, [], _, [], hW', trodAll_mk1 (shut_bool Try.underlying4 _), (trodAll_cons_mk (Below.trod laidOut (by kernel_rfl) (of_decide_eq_true (by kernel_rfl)) k0 bel lt0) (trodAll_cons_mk (Below.trod laidOut (by kernel_rfl) (of_decide_eq_true (by kernel_rfl)) k1 bel lt1) trodAll_mk0)), rfl, bel.frame _, fun h => by cases h⟩

theorem over : Rows.instrPutsRow.holds Try.pinned (OpenSpec.ofChange Rows.instrPutsSpec) :=
  OpenClaim.holds_of_wide 3 Try.f3 rfl rfl rfl rfl rfl rfl rfl ⟨rfl, rfl, rfl, rfl, rfl⟩ rfl rfl rfl rfl rfl (by kernel_rfl) Try.func3 (by kernel_rfl)
    (of_decide_eq_true (by kernel_rfl)) (by unfold Func.isWrapper; first | (rw [if_pos (by decide +kernel)]; kernel_rfl) | (rw [if_neg (by decide +kernel)]; exact ⟨rfl, rfl⟩))
    (fun os started H enc _ => lifted os started H enc)

/-- THE STATEMENT -/
theorem proved : Rows.InstrPutsSaid := over
#print axioms proved
end Go.Proofs.Ytnngibflnnmioaa.instrPuts
