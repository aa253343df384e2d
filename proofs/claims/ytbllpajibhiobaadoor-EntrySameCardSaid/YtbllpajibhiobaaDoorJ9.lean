/-
  Entries: whether they are more than is looked at.
-/
import Derived.Test.YtbllpajibhiobaaDoorJ8
namespace Go.Proofs.YtbllpajibhiobaaDoor
open Go.RowKit Go.Proofs.Leb Go.Proofs.Own
set_option maxRecDepth 100000
set_option maxHeartbeats 8000000

theorem great9_any (n : Ent) (w : World) (hr : EntOk w n) (hs : EntSz n) : Calls Tryd.prog 4 #[.agg (entC n)] w (NoP (EntFit n) w) := by
  have HG1 := hid (fun w' (hn : New w w') => great8_any _ _ w' (hr.g.new ER.ok hn) hs.g)
  have HG2 := hid (fun w' (hn : New w w') => great8_any _ _ w' (hr.o.new ER.ok hn) hs.o)
  have HG3 := hid (fun w' (hn : New w w') => great8_any _ _ w' (hr.d.new ER.ok hn) hs.d)
  have HG4 := hid (fun w' (hn : New w w') => great8_any _ _ w' (hr.b.new ER.ok hn) hs.b)
  obtain ⟨ag, cg, eg⟩ := hr.g.shape
  obtain ⟨ao, co, eo⟩ := hr.o.shape
  obtain ⟨ad, cd, ed⟩ := hr.d.shape
  obtain ⟨ab, cb, eb⟩ := hr.b.shape
  obtain ⟨au, cu, eu, -⟩ := eu_at hr.u
  obtain ⟨al, cl, el, hat⟩ := e1_at hr.l
  have HAT := hid hat
  have HKK := hid hs.k
  have s0 := hs.i0
  have s1 := hs.i1
  have s2 := hs.x0
  have s3 := hs.s
  have s4 := hs.l
  have s5 := hs.u
  have HB0 : Hid (BxE w n (w.alloc (.cells (entC n) 45))) := BxE.mk0
  have HE : Hid (FitG n.g → FitL n.e.off → FitLL n.e.l → FitL n.d.off → FitL n.c.b → n.d.s.size ≤ 300 → n.c.ls.length ≤ 40 → EntFit n) := fun h1 h2 h3 h4 h5 h6 h7 => ⟨h1, ⟨h2, h3⟩, ⟨h4, h6⟩, h7, h5⟩
  clear hr hs hat
  rw [eg] at HG1
  rw [eo] at HG2
  rw [ed] at HG3
  rw [eb] at HG4
  replace eg := hid eg
  replace eo := hid eo
  replace ed := hid ed
  replace eb := hid eb
  replace eu := hid eu
  replace el := hid el
  go_enter Tryd.func4, Tryd.ntmps4
  go_upto_region 1 with fail
  generalize Value.agg (entC n) = A0
  generalize w.alloc (.cells (entC n) 45) = w0 at *
  have z := HB0.out.cs
  rw [eg.out, eo.out, el.out, ed.out, eu.out, eb.out] at z
  obtain ⟨z18, z22, z23, z26, z27, z28, z29, z0, z1, z13⟩ := z
  go_wp2_with fail
  all_goals first
    | (go_ret
       exact ⟨_, rfl, (fun h => by cases h), HB0.out.1⟩)
    | skip
  refine (HG1.out _ HB0.out.1).mono ?_
  rintro e w1 ⟨b, rfl, hb, hn⟩
  have HB1 := hid (HB0.out.new hn)
  have HQ1 := hid hb
  clear hb hn HG1 z18 z22 z23 z26 z27 z28 z29 z0 z1 z13
  have z := HB1.out.cs
  rw [eg.out, eo.out, el.out, ed.out, eu.out, eb.out] at z
  obtain ⟨z18, z22, z23, z26, z27, z28, z29, z0, z1, z13⟩ := z
  cases b with
  | true =>
    go_wp2_with fail
    go_ret
    exact ⟨_, rfl, (fun h => by cases h), HB1.out.1⟩
  | false =>
  have HF1 := hid (HQ1.out rfl)
  clear HQ1
  go_wp2_with fail
  all_goals first
    | (go_ret
       exact ⟨_, rfl, (fun h => by cases h), HB1.out.1⟩)
    | skip
  refine (HG2.out _ HB1.out.1).mono ?_
  rintro e w2 ⟨b, rfl, hb, hn⟩
  have HB2 := hid (HB1.out.new hn)
  have HQ2 := hid hb
  clear hb hn HG2 z18 z22 z23 z26 z27 z28 z29 z0 z1 z13
  have z := HB2.out.cs
  rw [eg.out, eo.out, el.out, ed.out, eu.out, eb.out] at z
  obtain ⟨z18, z22, z23, z26, z27, z28, z29, z0, z1, z13⟩ := z
  cases b with
  | true =>
    go_wp2_with fail
    go_ret
    exact ⟨_, rfl, (fun h => by cases h), HB2.out.1⟩
  | false =>
  have HF2 := hid (HQ2.out rfl)
  clear HQ2
  go_wp2_with fail
  all_goals first
    | (go_ret
       exact ⟨_, rfl, (fun h => by cases h), HB2.out.1⟩)
    | skip
  refine (HG3.out _ HB2.out.1).mono ?_
  rintro e w3 ⟨b, rfl, hb, hn⟩
  have HB3 := hid (HB2.out.new hn)
  have HQ3 := hid hb
  clear hb hn HG3 z18 z22 z23 z26 z27 z28 z29 z0 z1 z13
  have z := HB3.out.cs
  rw [eg.out, eo.out, el.out, ed.out, eu.out, eb.out] at z
  obtain ⟨z18, z22, z23, z26, z27, z28, z29, z0, z1, z13⟩ := z
  cases b with
  | true =>
    go_wp2_with fail
    go_ret
    exact ⟨_, rfl, (fun h => by cases h), HB3.out.1⟩
  | false =>
  have HF3 := hid (HQ3.out rfl)
  clear HQ3
  go_wp2_with fail
  all_goals first
    | (go_ret
       exact ⟨_, rfl, (fun h => by cases h), HB3.out.1⟩)
    | skip
  refine (HG4.out _ HB3.out.1).mono ?_
  rintro e w4 ⟨b, rfl, hb, hn⟩
  have HB4 := hid (HB3.out.new hn)
  have HQ4 := hid hb
  clear hb hn HG4 z18 z22 z23 z26 z27 z28 z29 z0 z1 z13
  have z := HB4.out.cs
  rw [eg.out, eo.out, el.out, ed.out, eu.out, eb.out] at z
  obtain ⟨z18, z22, z23, z26, z27, z28, z29, z0, z1, z13⟩ := z
  cases b with
  | true =>
    go_wp2_with fail
    go_ret
    exact ⟨_, rfl, (fun h => by cases h), HB4.out.1⟩
  | false =>
  have HF4 := hid (HQ4.out rfl)
  clear HQ4
  go_wp2_with fail
  all_goals first
    | (go_ret
       exact ⟨_, rfl, (fun h => by cases h), HB4.out.1⟩)
    | skip
  have m1 : n.d.s.size ≤ 300 := by omega
  have m2 : n.c.ls.length ≤ 40 := by omega
  have m3 : n.e.l.length ≤ 20 := by omega
  have M1 := hid m1
  have M2 := hid m2
  clear m1 m2 z18 z22 z26 z27 z28 z29 z0 z1 z13 z23 s0 s1 s2 s3 s5
  go_loopw [3] (fun c wr => ∃ i : Nat, c = .int .i64 i ∧ i ≤ n.e.l.length ∧ (∀ x ∈ n.e.l.take i, FitL x) ∧ New w4 wr) (fun c _ => n.e.l.length - (intOf c).toNat)
  case atStart => exact ⟨0, rfl, by omega, by simp, Upd.refl _ _⟩
  case round =>
    obtain ⟨i, rfl, hi1, hfit, hnw⟩ := hrel
    have HFI := hid hfit
    have HBR := hid (HB4.out.new hnw)
    have z := HBR.out.cs.2.2.1
    rw [el.out] at z
    have HNW := hid hnw
    clear hfit hnw
    by_cases hi : i < n.e.l.length
    · obtain ⟨b, o, u, rfl, hc, hu⟩ := HAT.out i hi
      have k0 := HBR.out.1.cell hc (fun h => h)
      have HX : Hid (n.e.l[i]? = some n.e.l[i]) := List.getElem?_eq_getElem hi
      have HC := hid (great8_any u n.e.l[i] wr (RdE.new ER.ok hu HBR.out.1) (HKK.out _ (List.getElem_mem hi)))
      obtain ⟨au', cu', rfl⟩ : ∃ a c, u = .slice a n.e.l[i].length c := RdE.shape hu
      generalize n.e.l[i] = x at *
      clear hc hu
      go_wp2_with fail
      refine HC.out.mono ?_
      rintro e w5 ⟨bb, rfl, hb, hn5⟩
      have HBS := hid (HBR.out.new hn5)
      have HB := hid hb
      have HNR : Hid (New w4 w5) := New.trans HNW.out hn5
      clear k0 hn5 hb HC z
      cases bb with
      | true =>
        go_wp2_with fail
        go_ret
        exact ⟨_, rfl, (fun h => by cases h), HBS.out.1⟩
      | false =>
        go_wp2_with fail
        go_roundw
        case rel => exact ⟨i + 1, by go_num, by omega, allP_take HFI.out HX.out (HB.out (by first | rfl | trivial)), HNR.out⟩
        case measure => simp [intOf]; omega
    · have e : i = n.e.l.length := by omega
      subst e
      go_wp2_with fail
      go_ret
      refine ⟨_, rfl, (fun _ => HE.out HF1.out HF2.out ⟨m3, ?_⟩ HF3.out HF4.out M1.out M2.out), HBR.out.1⟩
      have := HFI.out
      rwa [List.take_length] at this
end Go.Proofs.YtbllpajibhiobaaDoor
