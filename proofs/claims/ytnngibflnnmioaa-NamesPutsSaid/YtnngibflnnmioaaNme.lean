/-
  Names put: a row; all of them.
-/
import Derived.Test.YtnngibflnnmioaaNmd
namespace Go.Proofs.Ytnngibflnnmioaa
open Go.RowKit Go.Proofs.Leb Go.Proofs.Own
set_option maxRecDepth 100000
set_option maxHeartbeats 4000000

theorem putRow_any (v c : Value) (bs cs : List UInt8) (r : UInt8) (w : World) (hb : Bytes w v bs) (hc : Rd w c cs) (hp : Apart v c) (hlt : ∀ k, c.ownBlock = some k → k < w.heap.size) (h1 : bs.length ≤ 10000000) (h2 : cs.length ≤ 10000000) :
    Calls Try.prog 50 #[v, .int .u8 r.toNat, c] w (Post w v (bs ++ rowB r cs)) := by
  have h5 : (encU cs.length 0).length ≤ 5 := encU_five (by omega)
  have HP := hid (fun v' w' (h : Bytes w' v' (bs ++ [r])) => putU_any v' (bs ++ [r]) cs.length w' (by omega) (by simp; omega) h)
  have HC := hid hc
  have HAP := hid hp
  have HLT := hid hlt
  have hl3 : ((bs ++ [r]) ++ encU cs.length 0).length + cs.length ≤ 1000000000 := by simp; omega
  obtain ⟨ac, cc, rfl⟩ := hc.shape
  clear hc hp hlt
  go_enter Try.func50, Try.ntmps50
  go_wp2_with (at_builtin; refine hold ?_)
  refine appB (.tmp 7) (.tmp 9) r hb rfl (by omega) rfl rfl rfl rfl ?_
  intro v1 w1 hb1 ha1
  have hrd := HC.out.adds ha1 HAP.out
  have HAP1 := hid (HAP.out.adds ha1 HLT.out)
  have HLT1 : Hid (∀ k, (Value.slice ac cs.length cc).ownBlock = some k → k < w1.heap.size) := fun k h => Nat.lt_of_lt_of_le (HLT.out k h) ha1.upd.size
  have HR1 := hid hrd
  have HA1 := hid ha1
  have HB1 := hid hb1
  clear hrd ha1 hb1 hb
  go_wp2_with fail
  refine (HP.out _ _ HB1.out).mono ?_
  rintro e w2 ⟨v2, rfl, hb2, ha2⟩
  have HR2 := hid (HR1.out.adds ha2 HAP1.out)
  have HA2 := hid (HA1.out.trans ha2)
  clear ha2
  go_wp2_with (at_builtin; refine hold ?_)
  refine appR (.tmp 14) (.tmp 15) hb2 HR2.out hl3 rfl rfl rfl rfl ?_
  intro v3 w3 hb3 ha3
  obtain ⟨L, hL⟩ : ∃ L, bs ++ rowB r cs = L := ⟨_, rfl⟩
  have HB : Hid (Bytes w3 v3 L) := by
    show Bytes _ _ _
    rw [← hL]
    unfold rowB
    simpa using hb3
  have HA := hid (HA2.out.trans ha3)
  have HL := hid hL
  clear hL hb2 hb3 ha3
  obtain ⟨a, c, rfl⟩ := HB.out.rd.shape
  go_wp2_with fail
  go_ret
  refine ⟨_, rfl, ?_, HA.out⟩
  rw [HL.out]
  exact HB.out
theorem apart_fresh {w : World} {v c : Value} (hv : ∀ k, v.ownBlock = some k → k < w.heap.size) (hc : Fresh w c) : Apart v c := fun k hk e => by
  have h1 := hv k hk
  have h2 := hc k e
  omega
theorem apB_fresh {B : Nat → Prop} {w w' : World} {v : Value} (hB : ∀ k, B k → k < w.heap.size) (hf : Fresh w v) (hn : New w w') : ApB B w' v := fun k hk => by
  have h1 := hB k hk
  exact ⟨Nat.lt_of_lt_of_le h1 hn.size, fun e => by have := hf k e; omega⟩
/-- what it answers -/
def PutP (N : Nms) (w : World) (e : Ending) (w' : World) : Prop :=
  New w w' ∧ ((NsRight N ∧ e = .returned (.tuple #[.string ⟨(nsB N).toArray⟩, .int .i64 0])) ∨ (¬ NsRight N ∧ e = .returned (.tuple #[.string ⟨#[]⟩, .int .i64 3])))
def Pz (N : Nms) : Prop := N.md.size ≤ 3000 ∧ PzN N.fs ∧ PzL N.ls
theorem nsPut_any {B : Nat → Prop} (N : Nms) (f l : Value) (w : World) (hB : ∀ k, B k → k < w.heap.size) (h1 : RdE 2 (E2 FN) w B f N.fs) (h2 : RdE 2 (E2 FL) w B l N.ls) (hs : Sz N) (hz : Pz N) :
    Calls Try.prog 17 #[nv N f l] w (PutP N w) := by
  have HRG := hid (fun w' (hn : New w w') => nsRight_any N f l w' (h1.new (E2.ok FN.ok) hn) (h2.new (E2.ok FL.ok) hn) hs)
  have HF := hid h1
  have HL := hid h2
  have HBB := hid hB
  have HZ := hid hz
  obtain ⟨a1, c1, rfl⟩ := h1.shape
  obtain ⟨a2, c2, rfl⟩ := h2.shape
  clear h1 h2 hs hz hB
  obtain ⟨hm, hf, hl, md, fs, ls⟩ := N
  obtain ⟨w2, hw2⟩ : ∃ w2, w.alloc (.cells #[.bool hm, .bool hf, .bool hl, .string md, .slice a1 fs.length c1, .slice a2 ls.length c2] 50) = w2 := ⟨_, rfl⟩
  have HN : Hid (New w w2) := by show New _ _; rw [← hw2]; exact (Upd.refl _ _).alloc _
  have HBX : Hid (NBox w2 w.heap.size ⟨hm, hf, hl, md, fs, ls⟩ (.slice a1 fs.length c1) (.slice a2 ls.length c2) 50) := by show NBox _ _ _ _ _ _; rw [← hw2]; exact hp_new rfl
  unfold nv at HRG ⊢
  simp only at *
  have HW := hid hw2
  clear hw2
  obtain ⟨P1, hP1⟩ : ∃ P : List UInt8, (if hm = true then rowB 0 (txB md) else []) = P := ⟨_, rfl⟩
  obtain ⟨P2, hP2⟩ : ∃ P : List UInt8, (if hf = true then rowB 1 (nmsB fs) else []) = P := ⟨_, rfl⟩
  obtain ⟨P3, hP3⟩ : ∃ P : List UInt8, (if hl = true then rowB 2 (lcsB ls) else []) = P := ⟨_, rfl⟩
  have HNS : Hid (nsB ⟨hm, hf, hl, md, fs, ls⟩ = P1 ++ (P2 ++ P3)) := by show _ = _; rw [← hP1, ← hP2, ← hP3]; rfl
  have L1 : P1.length ≤ 4000 := by
    rw [← hP1]
    have : (txB md).length ≤ 3005 := txB_len HZ.out.1
    have := encU_five (v := (txB md).length) (by omega)
    split
    · unfold rowB; simp only [List.length_cons, List.length_append]; omega
    · simp
  have L2 : P2.length ≤ 100000 := by
    rw [← hP2]
    have : (nmsB fs).length ≤ 90305 := nmsB_len HZ.out.2.1
    have := encU_five (v := (nmsB fs).length) (by omega)
    split
    · unfold rowB; simp only [List.length_cons, List.length_append]; omega
    · simp
  have HP1 := hid hP1
  have HP2 := hid hP2
  have HP3 := hid hP3
  clear hP1 hP2 hP3
  go_enter Try.func17, Try.ntmps17
  go_wp2_with fail
  rw [HW.out]
  clear HW
  refine (HRG.out _ HN.out).mono ?_
  rintro e w3 ⟨b, rfl, hb, hn⟩
  have HN3 := hid (New.trans HN.out hn)
  have HB3 : Hid (NBox w3 w.heap.size ⟨hm, hf, hl, md, fs, ls⟩ (.slice a1 fs.length c1) (.slice a2 ls.length c2) 50) := hp1 HBX.out hn
  clear hn HBX HN HRG
  cases b with
  | false =>
    have HNR := hid (fun h => Bool.noConfusion (hb.2 h) : ¬ NsRight ⟨hm, hf, hl, md, fs, ls⟩)
    clear hb
    go_wp2_with fail
    go_ret2
    exact ⟨HN3.out, .inr ⟨HNR.out, rfl⟩⟩
  | true =>
  have HRT := hid (hb.1 rfl)
  clear hb
  obtain ⟨z0, z1, z2, z3, z4, z5⟩ := HB3.out.cs
  simp only at z0 z1 z2 z3 z4 z5
  go_upto_if 12 with fail
  generalize Value.agg #[.bool hm, .bool hf, .bool hl, .string md, .slice a1 fs.length c1, .slice a2 ls.length c2] = A0
  go_cut [4] (fun b wx => Bytes wx b P1 ∧ New w3 wx ∧ Fresh w3 b)
  case first =>
    cases hm with
    | false =>
      have HE : Hid (P1 = []) := HP1.out.symm
      clear HNS HP1 L1
      go_wp2_with fail
      go_meet
      exact ⟨by rw [HE.out]; exact Bytes.nil _, Upd.refl _ _, fun k hk => by cases hk⟩
    | true =>
      have HE : Hid (P1 = rowB 0 (txB md)) := HP1.out.symm
      have HT := hid (putText_any (.slice none 0 0) [] md w3 (Bytes.nil _) (by decide) (by have : md.size ≤ 3000 := HZ.out.1; omega))
      have hll : (txB md).length ≤ 3005 := txB_len HZ.out.1
      clear HNS HP1 L1
      go_wp2_with fail
      refine HT.out.mono ?_
      rintro e w4 ⟨v4, rfl, hb4, ha4⟩
      rw [List.nil_append] at hb4
      obtain ⟨hn4, hf4⟩ := Adds.nil ha4
      have HR := hid (putRow_any (.slice none 0 0) v4 [] (txB md) 0 w4 (Bytes.nil _) hb4.rd (fun k hk => by cases hk) (fun k hk => (World.ownsRow.lt hb4 k hk).2) (by decide) (by omega))
      have HN4 := hid hn4
      clear hb4 ha4 hn4 hf4 HT z0 z1 z2 z3 z4 z5
      go_wp2_with fail
      refine HR.out.mono ?_
      rintro e w5 ⟨v5, rfl, hb5, ha5⟩
      rw [List.nil_append] at hb5
      obtain ⟨hn5, hf5⟩ := Adds.nil ha5
      have HB5 := hid hb5
      have HN5 := hid (New.trans HN4.out hn5)
      have HF5 := hid (Fresh.of_new HN4.out hf5)
      clear hb5 ha5 hn5 hf5
      go_wp2_with fail
      go_meet
      exact ⟨by rw [HE.out]; exact HB5.out, HN5.out, HF5.out⟩
  case rest =>
  obtain ⟨hb4, hn4, hf4⟩ := hcut
  obtain ⟨w4, rfl⟩ : ∃ w4, w4 = wc := ⟨_, rfl⟩
  clear z0 z1 z2 z3 z4 z5
  have HB4 : Hid (NBox w4 w.heap.size ⟨hm, hf, hl, md, fs, ls⟩ (.slice a1 fs.length c1) (.slice a2 ls.length c2) 50) := hp1 HB3.out hn4
  have HG3 : Hid (w.heap.size < w3.heap.size) := (Array.getElem?_eq_some_iff.1 HB3.out).1
  obtain ⟨z0, z1, z2, z3, z4, z5⟩ := HB4.out.cs
  simp only at z0 z1 z2 z3 z4 z5
  have HBY4 := hid hb4
  have HN4 := hid (New.trans HN3.out hn4)
  have HF4 := hid hf4
  have HS4 := hid hn4.size
  clear hb4 hn4 hf4
  go_upto_if 19 with fail
  go_cut [4] (fun b wx => Bytes wx b (P1 ++ P2) ∧ New w wx ∧ Fresh w3 b ∧ NBox wx w.heap.size ⟨hm, hf, hl, md, fs, ls⟩ (.slice a1 fs.length c1) (.slice a2 ls.length c2) 50 ∧ w3.heap.size ≤ wx.heap.size)
  case first =>
    cases hf with
    | false =>
      have HE : Hid (P2 = []) := HP2.out.symm
      clear HNS HP2 L2
      go_wp2_with fail
      go_meet
      exact ⟨by rw [HE.out, List.append_nil]; exact HBY4.out, HN4.out, HF4.out, HB4.out, HS4.out⟩
    | true =>
      have HE : Hid (P2 = rowB 1 (nmsB fs)) := HP2.out.symm
      have hll : (nmsB fs).length ≤ 90305 := nmsB_len HZ.out.2.1
      have HT := hid (putNames_any (B := B) (.slice none 0 0) (.slice a1 fs.length c1) [] fs w4 (Bytes.nil _) (HF.out.new (E2.ok FN.ok) HN4.out) (fun k hk => ⟨Nat.lt_of_lt_of_le (HBB.out k hk) HN4.out.size, fun e => by cases e⟩) (by decide) HZ.out.2.1)
      clear HNS HP2 L2
      have HLT4 := hid (fun k hk => (World.ownsRow.lt HBY4.out k hk).2)
      go_wp2_with fail
      refine HT.out.mono ?_
      rintro e w5 ⟨v5, rfl, hb5, ha5⟩
      rw [List.nil_append] at hb5
      obtain ⟨hn5, hf5⟩ := Adds.nil ha5
      have HR := hid (putRow_any _ v5 P1 (nmsB fs) 1 w5 (HBY4.out.new hn5) hb5.rd (apart_fresh HLT4.out hf5) (fun k hk => (World.ownsRow.lt hb5 k hk).2) (by omega) (by omega))
      have HN5 := hid hn5
      clear hb5 ha5 hn5 hf5 HT z0 z1 z2 z3 z4 z5
      go_wp2_with fail
      refine HR.out.mono ?_
      rintro e w6 ⟨v6, rfl, hb6, ha6⟩
      have HB6 := hid hb6
      have HF6 := hid (Fresh.adds HF4.out (Nat.le_trans HS4.out HN5.out.size) ha6)
      have HN6 := hid (Upd.newAdds (New.trans HN4.out HN5.out) (Fresh.of_new HN3.out HF4.out) ha6)
      have HX6 := hid (hpA1 (hp1 HB4.out HN5.out) ha6 (fun e => by have h1 := HF4.out _ e; have h2 := HG3.out; omega))
      have HS6 := hid (Nat.le_trans HS4.out (Nat.le_trans HN5.out.size ha6.upd.size))
      clear hb6 ha6
      go_wp2_with fail
      go_meet
      exact ⟨by rw [HE.out]; exact HB6.out, HN6.out, HF6.out, HX6.out, HS6.out⟩
  case rest =>
  obtain ⟨hb6, hn6, hf6, hx6, hs6⟩ := hcut
  obtain ⟨w6, rfl⟩ : ∃ w6, w6 = wc := ⟨_, rfl⟩
  clear z0 z1 z2 z3 z4 z5
  have HB6 := hid hx6
  obtain ⟨z0, z1, z2, z3, z4, z5⟩ := HB6.out.cs
  simp only at z0 z1 z2 z3 z4 z5
  have HBY6 := hid hb6
  have HN6 := hid hn6
  have HF6 := hid hf6
  have HS6 := hid hs6
  have HE6 : Hid ((P1 ++ P2).length ≤ 104000) := by show _ ≤ _; rw [List.length_append]; omega
  obtain ⟨pre, hpre⟩ : ∃ pre, P1 ++ P2 = pre := ⟨_, rfl⟩
  have HPRE := hid hpre
  rw [hpre] at HBY6 HE6
  clear hb6 hn6 hf6 hx6 hs6 HB4 HBY4 HN4 HF4 HS4 hpre
  go_upto_if 26 with fail
  go_cut [4] (fun b wx => Bytes wx b (pre ++ P3) ∧ New w wx)
  case first =>
    cases hl with
    | false =>
      have HE : Hid (P3 = []) := HP3.out.symm
      clear HNS HP3
      go_wp2_with fail
      go_meet
      exact ⟨by rw [HE.out, List.append_nil]; exact HBY6.out, HN6.out⟩
    | true =>
      have HE : Hid (P3 = rowB 2 (lcsB ls)) := HP3.out.symm
      have hll : (lcsB ls).length ≤ 2709305 := lcsB_len HZ.out.2.2
      have hl30 : ls.length ≤ 30 := HZ.out.2.2.1
      have HT := hid (putU_any (.slice none 0 0) [] ls.length w6 (by omega) (by decide) (Bytes.nil _))
      clear HNS HP3
      have HLT6 := hid (fun k hk => (World.ownsRow.lt HBY6.out k hk).2)
      go_wp2_with fail
      refine HT.out.mono ?_
      rintro e w7 ⟨v7, rfl, hb7, ha7⟩
      rw [List.nil_append] at hb7
      have hn7 := (Adds.nil ha7).1
      clear z0 z1 z2 z3 z4 z5
      obtain ⟨z0, z1, z2, z3, z4, z5⟩ := NBox.cs (hp1 HB6.out hn7)
      simp only at z0 z1 z2 z3 z4 z5
      go_wp2_with fail
      go_loopw [5, 35] (fun b c wr => ∃ i : Nat, c = .int .i64 i ∧ i ≤ ls.length ∧ Bytes wr b (encU ls.length 0 ++ (ls.take i).flatMap lcB) ∧ Adds w6 wr (.slice none 0 0) b) (fun _ c _ => ls.length - (intOf c).toNat)
      case atStart => exact ⟨0, rfl, by omega, by simpa using hb7, ha7⟩
      case round =>
        obtain ⟨i, rfl, hi1, hbr, har⟩ := hrel
        clear hb7 ha7 hn7 z0 z1 z2 z3 z4 z5
        by_cases hi : i < ls.length
        · obtain ⟨a', c', e, hat⟩ := e2_at HL.out
          cases e
          obtain ⟨b, o, u, rfl, hc0, hc1, hu⟩ := hat i hi
          have hu : RdE 2 (E2 FN) w B u ls[i].2 := hu
          obtain ⟨ua, uc, rfl⟩ := hu.shape
          have hnw : New w wr := New.trans HN6.out (Adds.nil har).1
          have q0 := hnw.cell hc0 (fun h => h)
          have q1 := hnw.cell hc1 (fun h => h)
          have hg1 : ls[i]? = some ls[i] := List.getElem?_eq_getElem hi
          have hsz := HZ.out.2.2.2 _ (List.getElem_mem hi)
          try simp only at hsz
          generalize hxe : ls[i] = x at *
          obtain ⟨n, xs⟩ := x
          simp only at q0 q1 hsz hu
          have HG := hid hg1
          have HU := hid hu
          have HSZ := hid hsz
          have hn32 := hsz.1
          clear hg1 hxe hat hc0 hc1 hu hsz
          have hfl := lcs_flat HZ.out.2.2 i
          try simp only at hfl
          have h5 := encU_five (v := ls.length) (by omega)
          obtain ⟨pl, hpl⟩ : ∃ pl, encU ls.length 0 ++ (ls.take i).flatMap lcB = pl := ⟨_, rfl⟩
          have hlen : pl.length ≤ 2800000 := by rw [← hpl]; simp only [List.length_append]; omega
          rw [hpl] at hbr
          have h6 := encU_five (v := n) hn32
          have HG2 : Hid (encU ls.length 0 ++ (ls.take (i + 1)).flatMap lcB = (pl ++ encU n 0) ++ nmsB xs) := by
            show _ = _
            rw [List.take_add_one, HG.out, ← hpl]
            simp [lcB]
          clear hpl hfl h5
          obtain ⟨ab, cb', rfl⟩ := hbr.rd.shape
          have HBR := hid hbr
          have HR := hid har
          obtain ⟨w1, hw1⟩ : ∃ w1, wr.alloc (.cells #[.int .u32 (n : Nat), (.slice ua xs.length uc)] 91) = w1 := ⟨_, rfl⟩
          have HBK : Hid (Blk w1 wr.heap.size (.int .u32 (n : Nat)) (.slice ua xs.length uc) 91) := by show Blk _ _ _ _ _; rw [← hw1]; exact Blk.mk
          have HN1 : Hid (New wr w1) := by show New _ _; rw [← hw1]; exact (Upd.refl _ _).alloc _
          have HNE : Hid ((Value.slice ab pl.length cb').ownBlock ≠ some wr.heap.size) := fun e => absurd (World.ownsRow.lt HBR.out _ e).2 (Nat.lt_irrefl _)
          have HPU := hid (fun v bs w (h : Bytes w v bs) (hl : bs.length ≤ 100000000) => putU_any v bs n w (by omega) hl h)
          have HPN := hid (fun v bs w' (h : Bytes w' v bs) (had : Adds w6 w' (.slice none 0 0) v) (hl : bs.length ≤ 5000000) =>
            putNames_any (B := B) v (.slice ua xs.length uc) bs xs w' h (HU.out.new (E2.ok FN.ok) (New.trans HN6.out (Adds.nil had).1)) (apB_fresh HBB.out (Fresh.of_new HN6.out (Adds.nil had).2) (New.trans HN6.out (Adds.nil had).1)) hl HSZ.out.2)
          have hwr : IntKind.u64.wrap (n : Int) = n := IntWalk.u64_in _ (by omega)
          have HW := hid hw1
          clear hw1 hbr har hnw
          go_wp2_with fail
          rw [HW.out]
          clear HW q0 q1
          have hn : (fun w' => Blk w' wr.heap.size (.int .u32 (n : Nat)) (.slice ua xs.length uc) 91) w1.drew := HBK.out
          have hbc : Bytes w1.drew (Value.slice ab pl.length cb') pl := (HBR.out.new HN1.out).new (Upd.refl _ _).drew
          have had : Adds w6 w1.drew (.slice none 0 0) (Value.slice ab pl.length cb') := (HR.out.then HN1.out).then (Upd.refl _ _).drew
          refine wp_region_noPanic ?_
          refine wp_region_held_drew (S := (fun w' => Blk w' wr.heap.size (.int .u32 (n : Nat)) (.slice ua xs.length uc) 91)) (by kernel_rfl) (by first | exact hn | exact (Upd.refl _ _).drew | exact Upd.drew (by assumption)) (fun hn => ?_)
          generalize w1.drew = wd at *
          refine wpAnyH_take (i := 0) (oi := { dst := some 39, op := Op.move (Operand.tmp 5), type := 39, pos := "names.go:83", after := #[], guard := none }) (v := ?v33x1) rfl (by kernel_rfl) (by kernel_rfl) (by kernel_rfl) (fun _ _ _ h => h) (Or.inl ⟨by rfl, ?y33x1⟩) hn ?r33x1
          case y33x1 => (intro wS hS; (try go_simp); (try with_reducible rfl))
          try simp only [Act.put, List.setIfInBounds_toArray, List.set_cons_zero, List.set_cons_succ]
          refine wpAnyH_take (i := 1) (oi := { dst := some 40, op := Op.fieldAddr 91 (Operand.tmp 7) 0, type := 0, pos := "names.go:83", after := #[], guard := none }) (v := ?v33x2) rfl (by kernel_rfl) (by kernel_rfl) (by kernel_rfl) (fun _ _ _ h => h) (Or.inl ⟨by rfl, ?y33x2⟩) hn ?r33x2
          case y33x2 => (intro wS hS; (try go_simp); (try with_reducible rfl))
          try simp only [Act.put, List.setIfInBounds_toArray, List.set_cons_zero, List.set_cons_succ]
          refine wpAnyH_take (i := 2) (oi := { dst := some 41, op := Op.load 22 (Operand.tmp 40), type := 22, pos := "names.go:83", after := #[{ on := 1, ground := Ground.data }], guard := none }) (v := ?v33x3) rfl (by kernel_rfl) (by kernel_rfl) (by kernel_rfl) (fun _ _ _ h => h) (Or.inl ⟨by rfl, ?y33x3⟩) hn ?r33x3
          case y33x3 => (intro wS hS; have c0 := Blk.c0 hS; (try go_simp); (try with_reducible rfl))
          try simp only [Act.put, List.setIfInBounds_toArray, List.set_cons_zero, List.set_cons_succ]
          refine wpAnyH_take (i := 3) (oi := { dst := some 42, op := Op.convert 22 79 (Operand.tmp 41), type := 79, pos := "names.go:83", after := #[{ on := 2, ground := Ground.data }], guard := none }) (v := ?v33x4) rfl (by kernel_rfl) (by kernel_rfl) (by kernel_rfl) (fun _ _ _ h => h) (Or.inl ⟨by rfl, ?y33x4⟩) hn ?r33x4
          case y33x4 => (intro wS hS; (try go_simp); (try with_reducible rfl))
          try simp only [Act.put, List.setIfInBounds_toArray, List.set_cons_zero, List.set_cons_succ]
          refine wpAnyH_take (i := 5) (oi := { dst := some 44, op := Op.fieldAddr 91 (Operand.tmp 7) 1, type := 0, pos := "names.go:83", after := #[], guard := none }) (v := ?v33x5) rfl (by kernel_rfl) (by kernel_rfl) (by kernel_rfl) (fun _ _ _ h => h) (Or.inl ⟨by rfl, ?y33x5⟩) hn ?r33x5
          case y33x5 => (intro wS hS; (try go_simp); (try with_reducible rfl))
          try simp only [Act.put, List.setIfInBounds_toArray, List.set_cons_zero, List.set_cons_succ]
          refine wpAnyH_take (i := 6) (oi := { dst := some 45, op := Op.load 47 (Operand.tmp 44), type := 47, pos := "names.go:83", after := #[{ on := 5, ground := Ground.data }], guard := none }) (v := ?v33x6) rfl (by kernel_rfl) (by kernel_rfl) (by kernel_rfl) (fun _ _ _ h => h) (Or.inl ⟨by rfl, ?y33x6⟩) hn ?r33x6
          case y33x6 => (intro wS hS; have c1 := Blk.c1 hS; (try go_simp); (try with_reducible rfl))
          try simp only [Act.put, List.setIfInBounds_toArray, List.set_cons_zero, List.set_cons_succ]
          refine wpAnyH_ready (rs := [4]) (by kernel_rfl) (by simp) ?_
          refine AllReadyH.cons (o := { dst := some 43, op := Op.call { callee := Callee.value (Operand.func 41), args := #[Operand.tmp 39, Operand.tmp 42], argTypes := #[39, 79] }, type := 39, pos := "names.go:83", after := #[{ on := 0, ground := Ground.data }, { on := 3, ground := Ground.data }], guard := none }) rfl (fun K hK => ?_) AllReadyH.nil
          go_simp
          with_reducible refine (HPU.out _ _ _ hbc (by omega)).mono ?_
          rintro e wq ⟨vq, rfl, hbq, haq⟩
          go_wp2_with fail
          have hne := ne_adds haq HNE.out (Blk.lt hn)
          have hn := blk_adds hn haq HNE.out
          have had := had.trans haq
          refine hK.out _ _ (by first | exact hn | exact Upd.alloc hn _) (fun hn => ?_)
          clear hK K
          try simp only [Act.put, List.setIfInBounds_toArray, List.set_cons_zero, List.set_cons_succ]
          refine wpAnyH_ready (rs := [7]) (by kernel_rfl) (by simp) ?_
          refine AllReadyH.cons (o := { dst := some 46, op := Op.call { callee := Callee.value (Operand.func 52), args := #[Operand.tmp 43, Operand.tmp 45], argTypes := #[39, 47] }, type := 39, pos := "names.go:83", after := #[{ on := 4, ground := Ground.data }, { on := 6, ground := Ground.data }, { on := 4, ground := Ground.chain }], guard := none }) rfl (fun K hK => ?_) AllReadyH.nil
          go_simp
          with_reducible refine (HPN.out _ _ _ hbq had (by simp only [List.length_append]; omega)).mono ?_
          rintro e wt ⟨vt, rfl, hbt, hat⟩
          go_wp2_with fail
          have hn := blk_adds hn hat hne
          have had := had.trans hat
          refine hK.out _ _ (by first | exact hn | exact Upd.alloc hn _) (fun hn => ?_)
          clear hK K
          try simp only [Act.put, List.setIfInBounds_toArray, List.set_cons_zero, List.set_cons_succ]
          refine wpAnyH_take (i := 8) (oi := { dst := some 5, op := Op.assign (Operand.tmp 46), type := 39, pos := "names.go:83", after := #[{ on := 7, ground := Ground.data }, { on := 7, ground := Ground.chain }, { on := 0, ground := Ground.phase }, { on := 1, ground := Ground.phase }, { on := 2, ground := Ground.phase }, { on := 3, ground := Ground.phase }, { on := 4, ground := Ground.phase }, { on := 5, ground := Ground.phase }, { on := 6, ground := Ground.phase }, { on := 7, ground := Ground.phase }], guard := none }) (v := ?v33x7) rfl (by kernel_rfl) (by kernel_rfl) (by kernel_rfl) (fun _ _ _ h => h) (Or.inl ⟨by rfl, ?y33x7⟩) hn ?r33x7
          case y33x7 => (intro wS hS; (try go_simp); (try with_reducible rfl))
          try simp only [Act.put, List.setIfInBounds_toArray, List.set_cons_zero, List.set_cons_succ]
          refine wpAnyH_done (by kernel_rfl) ?_ _
          refine NoPanic.normal ?_
          have HBT := hid hbt
          have HAD := hid had
          clear hbt had hn hbc hbq hat haq
          go_wp2_with fail
          go_roundw
          case rel => exact ⟨i + 1, by go_num, by omega, by rw [HG2.out]; exact HBT.out, HAD.out⟩
          case measure => (simp [intOf]; omega)
        · have e : i = ls.length := by omega
          subst e
          rw [List.take_length] at hbr
          change Bytes wr _ (lcsB ls) at hbr
          obtain ⟨hnr, hfr⟩ := Adds.nil har
          have HR := hid (putRow_any _ _ pre (lcsB ls) 2 wr (HBY6.out.new hnr) hbr.rd (apart_fresh HLT6.out hfr) (fun k hk => (World.ownsRow.lt hbr k hk).2) (by have := HE6.out; omega) (by omega))
          have HNR := hid hnr
          clear hbr har hnr hfr
          go_wp2_with fail
          refine HR.out.mono ?_
          rintro e w8 ⟨v8, rfl, hb8, ha8⟩
          have HB8 := hid hb8
          have HN8 := hid (Upd.newAdds (New.trans HN6.out HNR.out) (Fresh.of_new HN3.out HF6.out) ha8)
          clear hb8 ha8
          go_wp2_with fail
          go_meet
          exact ⟨by rw [HE.out]; exact HB8.out, HN8.out⟩
  case rest =>
  obtain ⟨hb9, hn9⟩ := hcut
  have HNS2 : Hid (nsB ⟨hm, hf, hl, md, fs, ls⟩ = pre ++ P3) := by show _ = _; rw [HNS.out, ← HPRE.out, List.append_assoc]
  have hs := hb9.rd.str
  have HN9 := hid hn9
  clear hb9 hn9 z0 z1 z2 z3 z4 z5
  go_wp2_with fail
  go_ret2
  exact ⟨HN9.out, .inl ⟨HRT.out, by rw [HNS2.out]; rfl⟩⟩
end Go.Proofs.Ytnngibflnnmioaa
