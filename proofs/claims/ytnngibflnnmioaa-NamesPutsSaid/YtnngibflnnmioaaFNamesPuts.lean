/-
  NamesPuts: for every input the law returns true, and what it was handed reads as it did. No condition.
-/
import Derived.Test.YtnngibflnnmioaaRows
import Derived.Test.YtnngibflnnmioaaNmp
import Derived.ProofKit
import Derived.OpenShut
import Derived.ShutString
import Derived.ChangeOld
import Derived.Below
import Derived.Lib.SmallJoins
namespace Go.Proofs.Ytnngibflnnmioaa.namesPuts
open Go.ChangeShapes Go.WideShapes Go.ChangeAt Go.RowKit Go.Proofs.Own
open Go.ChangeMaps (open_string shut_string)

theorem own : ownKnob Try.prog.godebug = none := by kernel_rfl
theorem laidOut : laidOutB Try.prog = true := by kernel_rfl

set_option maxRecDepth 100000 in
theorem lifted (os : Os) (started : os.Started) (H : Type) (enc : TypeId × Value → H) :
    ReturnsInHanded {} Try.checked os 4 .any (Rows.namesPutsSpec.pre6 enc Try.prog Try.f4 Rows.namesPutsRow.domain false) (Rows.namesPutsSpec.post enc Try.prog Try.f4 false true false false) := by
  refine returnsInHanded_of_change_sized (C := Try.checked) own started (by kernel_rfl) Try.func4
    (ChangeSpec.witness6 (enc := enc) (C := Try.checked) false ⟨#[], #[.agg #[.bool false, .bool false, .bool false, .string ByteArray.empty, .slice none 0 0, .slice none 0 0], .agg #[.bool false, .bool false, .bool false, .string ByteArray.empty, .slice none 0 0, .slice none 0 0]], []⟩ 8 (by kernel_rfl) (by kernel_rfl) (by kernel_rfl) (by kernel_rfl)) ?_
  intro W base args ds gs before hval0 hW hcnd hsz _
  have hval : ∀ (j : Nat) t v, Try.f4.params[j]? = some t → args[j]? = some v → Value.okWide Try.prog W .any base t v := hval0
  have hW' := hW
  obtain ⟨p, q, hA0, hV, rfl, hfz, hnd⟩ := hW
  have hA : DataW.TrodAll enc Try.prog W 0 (fun _ => true) true Try.f4.params.toList args.toList ds p := hA0
  rw [Try.params4] at hA hval
  obtain ⟨v0, vs0, d0, ds0, p0, q0, hargs, rfl, rfl, h0, r0⟩ := trodAll_cons hA
  obtain ⟨v1, vs1, d1, ds1, p1, q1, rfl, rfl, rfl, h1, r1⟩ := trodAll_cons r0
  obtain ⟨rfl, rfl, rfl⟩ := trodAll_nil r1
  obtain rfl : args = #[v0, v1] := by cases args; simp_all
  obtain ⟨rfl, rfl⟩ := trodVars_none hV
  have k0 := h0
  have lt0 : ∀ x ∈ p0, x.block < W.heap.size := by obtain ⟨m, hm⟩ := k0; exact DataW.trod_lt m _ _ _ hm
  have k1 := h1
  have lt1 : ∀ x ∈ p1, x.block < W.heap.size := by obtain ⟨m, hm⟩ := k1; exact DataW.trod_lt m _ _ _ hm
  have L0 : Light Try.prog 45 d0 := Light.arg hsz (j := 0) rfl rfl
  have L1 : Light Try.prog 45 d1 := Light.arg hsz (j := 1) rfl rfl
  obtain ⟨V0, Y0, n0, rfl, s0, _, rfl, rfl, f0⟩ := open_aggs Try.underlying45 (by kernel_rfl) (by kernel_rfl) (hval 0 45 v0 rfl rfl) h0
  obtain ⟨u0_0, u0_1, u0_2, u0_3, u0_4, u0_5, rfl⟩ := array6 s0
  obtain ⟨y0_0, _, g0_0⟩ := f0 0 _ _ rfl rfl
  obtain ⟨a0_0, e0_0, _⟩ := DataW.trod_bool Try.underlying4 g0_0
  obtain rfl : u0_0 = _ := by simpa using e0_0
  obtain ⟨y0_1, _, g0_1⟩ := f0 1 _ _ rfl rfl
  obtain ⟨a0_1, e0_1, _⟩ := DataW.trod_bool Try.underlying4 g0_1
  obtain rfl : u0_1 = _ := by simpa using e0_1
  obtain ⟨y0_2, _, g0_2⟩ := f0 2 _ _ rfl rfl
  obtain ⟨a0_2, e0_2, _⟩ := DataW.trod_bool Try.underlying4 g0_2
  obtain rfl : u0_2 = _ := by simpa using e0_2
  obtain ⟨y0_3, m0_3, g0_3⟩ := f0 3 _ _ rfl rfl
  obtain ⟨a0_3, rfl, z0_3⟩ := textOf g0_3 (Light.field Try.underlying45 L0 (j := 3) rfl (by rw [List.getElem?_map, m0_3]; rfl))
  obtain ⟨y0_4, m0_4, g0_4⟩ := f0 4 _ _ rfl rfl
  obtain ⟨a0_4, r0_4, z0_4, q0_4⟩ := namesOf g0_4 (Light.field Try.underlying45 L0 (j := 4) rfl (by rw [List.getElem?_map, m0_4]; rfl))
  obtain ⟨y0_5, m0_5, g0_5⟩ := f0 5 _ _ rfl rfl
  obtain ⟨a0_5, r0_5, z0_5, q0_5⟩ := localsOf g0_5 (Light.field Try.underlying45 L0 (j := 5) rfl (by rw [List.getElem?_map, m0_5]; rfl))
  obtain ⟨V1, Y1, n1, rfl, s1, _, rfl, rfl, f1⟩ := open_aggs Try.underlying45 (by kernel_rfl) (by kernel_rfl) (hval 1 45 v1 rfl rfl) h1
  obtain ⟨u1_0, u1_1, u1_2, u1_3, u1_4, u1_5, rfl⟩ := array6 s1
  obtain ⟨y1_0, _, g1_0⟩ := f1 0 _ _ rfl rfl
  obtain ⟨a1_0, e1_0, _⟩ := DataW.trod_bool Try.underlying4 g1_0
  obtain rfl : u1_0 = _ := by simpa using e1_0
  obtain ⟨y1_1, _, g1_1⟩ := f1 1 _ _ rfl rfl
  obtain ⟨a1_1, e1_1, _⟩ := DataW.trod_bool Try.underlying4 g1_1
  obtain rfl : u1_1 = _ := by simpa using e1_1
  obtain ⟨y1_2, _, g1_2⟩ := f1 2 _ _ rfl rfl
  obtain ⟨a1_2, e1_2, _⟩ := DataW.trod_bool Try.underlying4 g1_2
  obtain rfl : u1_2 = _ := by simpa using e1_2
  obtain ⟨y1_3, m1_3, g1_3⟩ := f1 3 _ _ rfl rfl
  obtain ⟨a1_3, rfl, z1_3⟩ := textOf g1_3 (Light.field Try.underlying45 L1 (j := 3) rfl (by rw [List.getElem?_map, m1_3]; rfl))
  obtain ⟨y1_4, m1_4, g1_4⟩ := f1 4 _ _ rfl rfl
  obtain ⟨a1_4, r1_4, z1_4, q1_4⟩ := namesOf g1_4 (Light.field Try.underlying45 L1 (j := 4) rfl (by rw [List.getElem?_map, m1_4]; rfl))
  obtain ⟨y1_5, m1_5, g1_5⟩ := f1 5 _ _ rfl rfl
  obtain ⟨a1_5, r1_5, z1_5, q1_5⟩ := localsOf g1_5 (Light.field Try.underlying45 L1 (j := 5) rfl (by rw [List.getElem?_map, m1_5]; rfl))
  clear hA0 hval0
  refine (namesPuts_in W a0_0 a0_1 a0_2 a0_3 a0_4 a0_5 a1_0 a1_1 a1_2 a1_3 a1_4 a1_5 _ _ _ _ z0_3 z1_3 r0_4 r0_5 r1_4 r1_5 z0_4 q0_4 z0_5 q0_5 z1_4 q1_4 z1_5 q1_5).mono fun e W' ⟨he, nw⟩ => ?_
  have bel := New.below nw
  subst he
  exact ⟨_, rfl, _, _, _, [], _, [], hW', trodAll_mk1 (shut_bool Try.underlying4 _), (trodAll_cons_mk (Below.trod laidOut (by kernel_rfl) (of_decide_eq_true (by kernel_rfl)) k0 bel lt0) (trodAll_cons_mk (Below.trod laidOut (by kernel_rfl) (of_decide_eq_true (by kernel_rfl)) k1 bel lt1) trodAll_mk0)), rfl, bel.frame _, fun h => by cases h⟩

theorem over : Rows.namesPutsRow.holds Try.pinned (OpenSpec.ofChange Rows.namesPutsSpec) :=
  OpenClaim.holds_of_wide 4 Try.f4 rfl rfl rfl rfl rfl rfl rfl ⟨rfl, rfl, rfl, rfl, rfl⟩ rfl rfl rfl rfl rfl (by kernel_rfl) Try.func4 (by kernel_rfl)
    (of_decide_eq_true (by kernel_rfl)) (by unfold Func.isWrapper; first | (rw [if_pos (by decide +kernel)]; kernel_rfl) | (rw [if_neg (by decide +kernel)]; exact ⟨rfl, rfl⟩))
    (fun os started H enc _ => lifted os started H enc)

/-- THE STATEMENT -/
theorem proved : Rows.NamesPutsSaid := over
#print axioms proved
end Go.Proofs.Ytnngibflnnmioaa.namesPuts
