/-
  EntrySame, walked.
-/
import Derived.Test.YtbllpajibhiobaaDoorJ12
namespace Go.Proofs.YtbllpajibhiobaaDoor
open Go.RowKit Go.Proofs.Leb Go.Proofs.Own
set_option maxRecDepth 100000
set_option maxHeartbeats 8000000

theorem entrySame_walk (n o : Ent) (w : World) (hF : Fms w) (h1 : EntOk w n) (h2 : EntOk w o) (s1 : EntSz n) (s2 : EntSz o) :
    Calls Tryd.prog 3 #[.agg (entC n), .agg (entC o)] w (True' w) := by
  have HG1 := hid (fun w' (hn : New w w') => great9_any n w' (h1.new hn) s1)
  have HG2 := hid (fun w' (hn : New w w') => great9_any o w' (h2.new hn) s2)
  have HAW := hid (fun w' (hn : New w w') => awakeE_any w' (hF.new hn))
  obtain ⟨bG, hbG⟩ := boolOf' (n.g = o.g)
  have HOG : Hid (EntFit n → ∀ w', New w w' → Calls Tryd.prog 5 #[.agg (gC n)] w' (OwnV (PG n.g) w')) := fun f w' hn => ownG_v n w' (h1.new hn) (by have := fit_parts f; first | exact this.1 | exact this.2.1 | exact this.2.2.1 | exact this.2.2.2)
  have HQG : Hid (EntFit o → ∀ w', New w w' → Calls Tryd.prog 5 #[.agg (gC o)] w' (OwnV (PG o.g) w')) := fun f w' hn => ownG_v o w' (h2.new hn) (by have := fit_parts f; first | exact this.1 | exact this.2.1 | exact this.2.2.1 | exact this.2.2.2)
  have HSG : Hid (EntFit n → EntFit o → ∀ v u w', PG n.g v w' → PG o.g u w' → Calls Tryd.prog 6 #[v, u] w' (IsNew bG w')) := fun f k v u w' hv hu => sameG_v hbG v u w' hv hu (by have := fit_parts f; first | exact this.1 | exact this.2.1 | exact this.2.2.1 | exact this.2.2.2) (by have := fit_parts k; first | exact this.1 | exact this.2.1 | exact this.2.2.1 | exact this.2.2.2)
  have HRG : Hid (EntFit n → EntFit o → ∀ w', New w w' → Calls Tryd.prog 7 #[.agg (gC n), .agg (gC o)] w' (IsNew bG w')) := fun f k w' hn => refG_v hbG w' (h1.new hn) (h2.new hn) (by have := fit_parts f; first | exact this.1 | exact this.2.1 | exact this.2.2.1 | exact this.2.2.2) (by have := fit_parts k; first | exact this.1 | exact this.2.1 | exact this.2.2.1 | exact this.2.2.2)
  obtain ⟨bE, hbE⟩ := boolOf' (n.e = o.e)
  have HOE : Hid (EntFit n → ∀ w', New w w' → Calls Tryd.prog 8 #[.agg (eC n)] w' (OwnV (PE n.e) w')) := fun f w' hn => ownE_v n w' (h1.new hn) (by have := fit_parts f; first | exact this.1 | exact this.2.1 | exact this.2.2.1 | exact this.2.2.2)
  have HQE : Hid (EntFit o → ∀ w', New w w' → Calls Tryd.prog 8 #[.agg (eC o)] w' (OwnV (PE o.e) w')) := fun f w' hn => ownE_v o w' (h2.new hn) (by have := fit_parts f; first | exact this.1 | exact this.2.1 | exact this.2.2.1 | exact this.2.2.2)
  have HSE : Hid (EntFit n → EntFit o → ∀ v u w', PE n.e v w' → PE o.e u w' → Calls Tryd.prog 9 #[v, u] w' (IsNew bE w')) := fun f k v u w' hv hu => sameE_v hbE v u w' hv hu (by have := fit_parts f; first | exact this.1 | exact this.2.1 | exact this.2.2.1 | exact this.2.2.2) (by have := fit_parts k; first | exact this.1 | exact this.2.1 | exact this.2.2.1 | exact this.2.2.2)
  have HRE : Hid (EntFit n → EntFit o → ∀ w', New w w' → Calls Tryd.prog 10 #[.agg (eC n), .agg (eC o)] w' (IsNew bE w')) := fun f k w' hn => refE_v hbE w' (h1.new hn) (h2.new hn) (by have := fit_parts f; first | exact this.1 | exact this.2.1 | exact this.2.2.1 | exact this.2.2.2) (by have := fit_parts k; first | exact this.1 | exact this.2.1 | exact this.2.2.1 | exact this.2.2.2)
  obtain ⟨bD, hbD⟩ := boolOf' (n.d = o.d)
  have HOD : Hid (EntFit n → ∀ w', New w w' → Calls Tryd.prog 11 #[.agg (dC n)] w' (OwnV (PD n.d) w')) := fun f w' hn => ownD_v n w' (h1.new hn) (by have := fit_parts f; first | exact this.1 | exact this.2.1 | exact this.2.2.1 | exact this.2.2.2)
  have HQD : Hid (EntFit o → ∀ w', New w w' → Calls Tryd.prog 11 #[.agg (dC o)] w' (OwnV (PD o.d) w')) := fun f w' hn => ownD_v o w' (h2.new hn) (by have := fit_parts f; first | exact this.1 | exact this.2.1 | exact this.2.2.1 | exact this.2.2.2)
  have HSD : Hid (EntFit n → EntFit o → ∀ v u w', PD n.d v w' → PD o.d u w' → Calls Tryd.prog 12 #[v, u] w' (IsNew bD w')) := fun f k v u w' hv hu => sameD_v hbD v u w' hv hu (by have := fit_parts f; first | exact this.1 | exact this.2.1 | exact this.2.2.1 | exact this.2.2.2) (by have := fit_parts k; first | exact this.1 | exact this.2.1 | exact this.2.2.1 | exact this.2.2.2)
  have HRD : Hid (EntFit n → EntFit o → ∀ w', New w w' → Calls Tryd.prog 13 #[.agg (dC n), .agg (dC o)] w' (IsNew bD w')) := fun f k w' hn => refD_v hbD w' (h1.new hn) (h2.new hn) (by have := fit_parts f; first | exact this.1 | exact this.2.1 | exact this.2.2.1 | exact this.2.2.2) (by have := fit_parts k; first | exact this.1 | exact this.2.1 | exact this.2.2.1 | exact this.2.2.2)
  obtain ⟨bC, hbC⟩ := boolOf' (n.c = o.c)
  have HOC : Hid (EntFit n → ∀ w', New w w' → Calls Tryd.prog 14 #[.agg (cC n)] w' (OwnV (PC n.c) w')) := fun f w' hn => ownC_v n w' (h1.new hn) (by have := fit_parts f; first | exact this.1 | exact this.2.1 | exact this.2.2.1 | exact this.2.2.2)
  have HQC : Hid (EntFit o → ∀ w', New w w' → Calls Tryd.prog 14 #[.agg (cC o)] w' (OwnV (PC o.c) w')) := fun f w' hn => ownC_v o w' (h2.new hn) (by have := fit_parts f; first | exact this.1 | exact this.2.1 | exact this.2.2.1 | exact this.2.2.2)
  have HSC : Hid (EntFit n → EntFit o → ∀ v u w', PC n.c v w' → PC o.c u w' → Calls Tryd.prog 15 #[v, u] w' (IsNew bC w')) := fun f k v u w' hv hu => sameC_v hbC v u w' hv hu (by have := fit_parts f; first | exact this.1 | exact this.2.1 | exact this.2.2.1 | exact this.2.2.2) (by have := fit_parts k; first | exact this.1 | exact this.2.1 | exact this.2.2.1 | exact this.2.2.2)
  have HRC : Hid (EntFit n → EntFit o → ∀ w', New w w' → Calls Tryd.prog 16 #[.agg (cC n), .agg (cC o)] w' (IsNew bC w')) := fun f k w' hn => refC_v hbC w' (h1.new hn) (h2.new hn) (by have := fit_parts f; first | exact this.1 | exact this.2.1 | exact this.2.2.1 | exact this.2.2.2) (by have := fit_parts k; first | exact this.1 | exact this.2.1 | exact this.2.2.1 | exact this.2.2.2)
  obtain ⟨w2, hw2⟩ : ∃ w2, (w.alloc (.cells (entC n) 45)).alloc (.cells (entC o) 45) = w2 := ⟨_, rfl⟩
  have HB0 : Hid (E2N w n o w2) := by
    show E2N _ _ _ _
    rw [← hw2]
    exact ⟨((Upd.refl _ _).alloc _).alloc _, hp_old (by simp) (hp_new rfl), hp_new (by simp)⟩
  have HW := hid hw2
  clear h1 h2 s1 s2 hF hw2 hbG hbE hbD hbC
  go_enter Tryd.func3, Tryd.ntmps3
  go_upto_region 1 with fail
  rw [HW.out]
  clear HW
  generalize Value.agg (entC n) = A0
  generalize Value.agg (entC o) = A1
  go_wp2_with (refine wpList_load_row rfl 45 _ rfl w.heap.size rfl 45 (entC n) (0, 0) _ HB0.out.2.1 Tryd.underlying45 rfl infoEn ?_)
  refine (HG1.out _ HB0.out.1).mono ?_
  rintro e w3 ⟨b, rfl, hb, hn⟩
  have HB3 := hid (HB0.out.new hn)
  have HF1 := hid hb
  clear hb hn HB0 HG1
  cases b with
  | true =>
    go_wp2_with fail
    go_ret
    exact ⟨rfl, HB3.out.1⟩
  | false =>
  have HK1 := hid (HF1.out rfl)
  clear HF1
  go_wp2_with (refine wpList_load_rowG rfl 45 _ rfl (w.heap.size + 1) rfl 45 (entC o) _ HB3.out.2.2 Tryd.underlying45 rfl infoEn ?_)
  refine (HG2.out _ HB3.out.1).mono ?_
  rintro e w4 ⟨b, rfl, hb, hn⟩
  have HB4 := hid (HB3.out.new hn)
  have HF2 := hid hb
  clear hb hn HB3 HG2
  cases b with
  | true =>
    go_wp2_with fail
    go_ret
    exact ⟨rfl, HB4.out.1⟩
  | false =>
  have HK2 := hid (HF2.out rfl)
  clear HF2
  go_wp2_with fail
  have hn := HB4.out.new (Upd.refl _ w4).drew
  generalize Value.agg (entC n) = A2
  generalize Value.agg (entC o) = A3
  refine wp_region_noPanic ?_
  refine wp_region_held_drew (S := (E2N w n o)) (by kernel_rfl) (by first | exact hn | exact (Upd.refl _ _).drew | exact Upd.drew (by assumption)) (fun hn => ?_)
  generalize w4.drew = wd at *
  refine wpAnyH_take (i := 0) (oi := { dst := some 11, op := Op.fieldAddr 45 (Operand.tmp 2) 2, type := 0, pos := "law.go:47", after := #[], guard := none }) (v := ?v45x1) rfl (by kernel_rfl) (by kernel_rfl) (by kernel_rfl) (fun _ _ _ h => h) (Or.inl ⟨by rfl, ?y45x1⟩) hn ?r45x1
  case y45x1 => (intro wS hS; (try go_simp); (try with_reducible rfl))
  try simp only [Act.put, List.setIfInBounds_toArray, List.set_cons_zero, List.set_cons_succ]
  refine wpAnyH_take (i := 1) (oi := { dst := some 12, op := Op.load 35 (Operand.tmp 11), type := 35, pos := "law.go:47", after := #[{ on := 0, ground := Ground.data }], guard := none }) (v := ?v45x2) rfl (by kernel_rfl) (by kernel_rfl) (by kernel_rfl) (fun _ _ _ h => h) (Or.inl ⟨by rfl, ?y45x2⟩) hn ?r45x2
  case y45x2 => (intro wS hS; refine load_part (x := .tmp 11) ?_ ?_ (hS.at1 (gC_in n)) Tryd.underlying35 rfl infoRG; rfl; rfl; (try go_simp); (try with_reducible rfl))
  try simp only [Act.put, List.setIfInBounds_toArray, List.set_cons_zero, List.set_cons_succ]
  refine wpAnyH_take (i := 3) (oi := { dst := some 14, op := Op.fieldAddr 45 (Operand.tmp 3) 2, type := 0, pos := "law.go:47", after := #[], guard := none }) (v := ?v45x3) rfl (by kernel_rfl) (by kernel_rfl) (by kernel_rfl) (fun _ _ _ h => h) (Or.inl ⟨by rfl, ?y45x3⟩) hn ?r45x3
  case y45x3 => (intro wS hS; (try go_simp); (try with_reducible rfl))
  try simp only [Act.put, List.setIfInBounds_toArray, List.set_cons_zero, List.set_cons_succ]
  refine wpAnyH_take (i := 4) (oi := { dst := some 15, op := Op.load 35 (Operand.tmp 14), type := 35, pos := "law.go:47", after := #[{ on := 3, ground := Ground.data }], guard := none }) (v := ?v45x4) rfl (by kernel_rfl) (by kernel_rfl) (by kernel_rfl) (fun _ _ _ h => h) (Or.inl ⟨by rfl, ?y45x4⟩) hn ?r45x4
  case y45x4 => (intro wS hS; refine load_part (x := .tmp 14) ?_ ?_ (hS.at2 (gC_in o)) Tryd.underlying35 rfl infoRG; rfl; rfl; (try go_simp); (try with_reducible rfl))
  try simp only [Act.put, List.setIfInBounds_toArray, List.set_cons_zero, List.set_cons_succ]
  refine wpAnyH_take (i := 7) (oi := { dst := some 18, op := Op.fieldAddr 45 (Operand.tmp 2) 2, type := 0, pos := "law.go:47", after := #[], guard := none }) (v := ?v45x5) rfl (by kernel_rfl) (by kernel_rfl) (by kernel_rfl) (fun _ _ _ h => h) (Or.inl ⟨by rfl, ?y45x5⟩) hn ?r45x5
  case y45x5 => (intro wS hS; (try go_simp); (try with_reducible rfl))
  try simp only [Act.put, List.setIfInBounds_toArray, List.set_cons_zero, List.set_cons_succ]
  refine wpAnyH_take (i := 8) (oi := { dst := some 19, op := Op.load 35 (Operand.tmp 18), type := 35, pos := "law.go:47", after := #[{ on := 7, ground := Ground.data }], guard := none }) (v := ?v45x6) rfl (by kernel_rfl) (by kernel_rfl) (by kernel_rfl) (fun _ _ _ h => h) (Or.inl ⟨by rfl, ?y45x6⟩) hn ?r45x6
  case y45x6 => (intro wS hS; refine load_part (x := .tmp 18) ?_ ?_ (hS.at1 (gC_in n)) Tryd.underlying35 rfl infoRG; rfl; rfl; (try go_simp); (try with_reducible rfl))
  try simp only [Act.put, List.setIfInBounds_toArray, List.set_cons_zero, List.set_cons_succ]
  refine wpAnyH_take (i := 9) (oi := { dst := some 20, op := Op.fieldAddr 45 (Operand.tmp 3) 2, type := 0, pos := "law.go:47", after := #[], guard := none }) (v := ?v45x7) rfl (by kernel_rfl) (by kernel_rfl) (by kernel_rfl) (fun _ _ _ h => h) (Or.inl ⟨by rfl, ?y45x7⟩) hn ?r45x7
  case y45x7 => (intro wS hS; (try go_simp); (try with_reducible rfl))
  try simp only [Act.put, List.setIfInBounds_toArray, List.set_cons_zero, List.set_cons_succ]
  refine wpAnyH_take (i := 10) (oi := { dst := some 21, op := Op.load 35 (Operand.tmp 20), type := 35, pos := "law.go:47", after := #[{ on := 9, ground := Ground.data }], guard := none }) (v := ?v45x8) rfl (by kernel_rfl) (by kernel_rfl) (by kernel_rfl) (fun _ _ _ h => h) (Or.inl ⟨by rfl, ?y45x8⟩) hn ?r45x8
  case y45x8 => (intro wS hS; refine load_part (x := .tmp 20) ?_ ?_ (hS.at2 (gC_in o)) Tryd.underlying35 rfl infoRG; rfl; rfl; (try go_simp); (try with_reducible rfl))
  try simp only [Act.put, List.setIfInBounds_toArray, List.set_cons_zero, List.set_cons_succ]
  refine wpAnyH_ready (rs := [2]) (by kernel_rfl) (by simp) ?_
  refine AllReadyH.cons (o := { dst := some 13, op := Op.call { callee := Callee.value (Operand.func 5), args := #[Operand.tmp 12], argTypes := #[35] }, type := 52, pos := "law.go:47", after := #[{ on := 1, ground := Ground.data }], guard := none }) rfl (fun K hK => ?_) AllReadyH.nil
  go_simp
  refine (HOG.out HK1.out _ hn.1).mono ?_
  rintro e wqG ⟨vG, rfl, hvG, hnq⟩
  go_wp2_with fail
  have hn := hn.new hnq
  refine hK.out _ _ (by first | exact hn | exact Upd.alloc hn _) (fun hn => ?_)
  clear hK K
  try simp only [Act.put, List.setIfInBounds_toArray, List.set_cons_zero, List.set_cons_succ]
  refine wpAnyH_ready (rs := [5]) (by kernel_rfl) (by simp) ?_
  refine AllReadyH.cons (o := { dst := some 16, op := Op.call { callee := Callee.value (Operand.func 5), args := #[Operand.tmp 15], argTypes := #[35] }, type := 52, pos := "law.go:47", after := #[{ on := 4, ground := Ground.data }, { on := 2, ground := Ground.chain }], guard := none }) rfl (fun K hK => ?_) AllReadyH.nil
  go_simp
  refine (HQG.out HK2.out _ hn.1).mono ?_
  rintro e wrG ⟨uG, rfl, huG, hnq⟩
  go_wp2_with fail
  have hn := hn.new hnq
  have hvG := hvG.new hnq
  refine hK.out _ _ (by first | exact hn | exact Upd.alloc hn _) (fun hn => ?_)
  clear hK K
  try simp only [Act.put, List.setIfInBounds_toArray, List.set_cons_zero, List.set_cons_succ]
  refine wpAnyH_ready (rs := [6]) (by kernel_rfl) (by simp) ?_
  refine AllReadyH.cons (o := { dst := some 17, op := Op.call { callee := Callee.value (Operand.func 6), args := #[Operand.tmp 13, Operand.tmp 16], argTypes := #[52, 52] }, type := 4, pos := "law.go:47", after := #[{ on := 2, ground := Ground.data }, { on := 5, ground := Ground.data }, { on := 5, ground := Ground.chain }], guard := none }) rfl (fun K hK => ?_) AllReadyH.nil
  go_simp
  refine (HSG.out HK1.out HK2.out _ _ _ hvG huG).mono ?_
  rintro e wsG ⟨rfl, hnq⟩
  go_wp2_with fail
  have hn := hn.new hnq
  clear hvG huG
  refine hK.out _ _ (by first | exact hn | exact Upd.alloc hn _) (fun hn => ?_)
  clear hK K
  try simp only [Act.put, List.setIfInBounds_toArray, List.set_cons_zero, List.set_cons_succ]
  refine wpAnyH_ready (rs := [11]) (by kernel_rfl) (by simp) ?_
  refine AllReadyH.cons (o := { dst := some 22, op := Op.call { callee := Callee.value (Operand.func 7), args := #[Operand.tmp 19, Operand.tmp 21], argTypes := #[35, 35] }, type := 4, pos := "law.go:47", after := #[{ on := 8, ground := Ground.data }, { on := 10, ground := Ground.data }, { on := 6, ground := Ground.chain }], guard := none }) rfl (fun K hK => ?_) AllReadyH.nil
  go_simp
  refine (HRG.out HK1.out HK2.out _ hn.1).mono ?_
  rintro e wtG ⟨rfl, hnq⟩
  go_wp2_with fail
  have hn := hn.new hnq
  refine hK.out _ _ (by first | exact hn | exact Upd.alloc hn _) (fun hn => ?_)
  clear hK K
  try simp only [Act.put, List.setIfInBounds_toArray, List.set_cons_zero, List.set_cons_succ]
  refine wpAnyH_take (i := 12) (oi := { dst := some 23, op := Op.binOp BinOp.eql 4 (Operand.tmp 17) (Operand.tmp 22) 4, type := 4, pos := "law.go:47", after := #[{ on := 6, ground := Ground.data }, { on := 11, ground := Ground.data }], guard := none }) (v := ?v45x9) rfl (by kernel_rfl) (by kernel_rfl) (by kernel_rfl) (fun _ _ _ h => h) (Or.inl ⟨by rfl, ?y45x9⟩) hn ?r45x9
  case y45x9 => (intro wS hS; go_simp; (try go_simp); (try with_reducible rfl))
  try simp only [Act.put, List.setIfInBounds_toArray, List.set_cons_zero, List.set_cons_succ]
  refine wpAnyH_take (i := 13) (oi := { dst := some 24, op := Op.move (Operand.tmp 23), type := 4, pos := "law.go:47", after := #[{ on := 12, ground := Ground.data }, { on := 11, ground := Ground.chain }], guard := none }) (v := ?v45x10) rfl (by kernel_rfl) (by kernel_rfl) (by kernel_rfl) (fun _ _ _ h => h) (Or.inl ⟨by rfl, ?y45x10⟩) hn ?r45x10
  case y45x10 => (intro wS hS; (try go_simp); (try with_reducible rfl))
  try simp only [Act.put, List.setIfInBounds_toArray, List.set_cons_zero, List.set_cons_succ]
  refine wpAnyH_take (i := 14) (oi := { dst := some 25, op := Op.fieldAddr 45 (Operand.tmp 2) 3, type := 0, pos := "law.go:47", after := #[{ on := 13, ground := Ground.guard }], guard := some (13, true) }) (v := ?v45x11) rfl (by kernel_rfl) (by kernel_rfl) (by kernel_rfl) (fun _ _ _ h => h) (Or.inl ⟨by rfl, ?y45x11⟩) hn ?r45x11
  case y45x11 => (intro wS hS; (try go_simp); (try with_reducible rfl))
  try simp only [Act.put, List.setIfInBounds_toArray, List.set_cons_zero, List.set_cons_succ]
  refine wpAnyH_take (i := 15) (oi := { dst := some 26, op := Op.load 38 (Operand.tmp 25), type := 38, pos := "law.go:47", after := #[{ on := 14, ground := Ground.data }, { on := 13, ground := Ground.guard }], guard := some (13, true) }) (v := ?v45x12) rfl (by kernel_rfl) (by kernel_rfl) (by kernel_rfl) (fun _ _ _ h => h) (Or.inl ⟨by rfl, ?y45x12⟩) hn ?r45x12
  case y45x12 => (intro wS hS; refine load_part (x := .tmp 25) ?_ ?_ (hS.at1 (eC_in n)) Tryd.underlying38 rfl infoRE; rfl; rfl; (try go_simp); (try with_reducible rfl))
  try simp only [Act.put, List.setIfInBounds_toArray, List.set_cons_zero, List.set_cons_succ]
  refine wpAnyH_take (i := 17) (oi := { dst := some 28, op := Op.fieldAddr 45 (Operand.tmp 3) 3, type := 0, pos := "law.go:47", after := #[{ on := 13, ground := Ground.guard }], guard := some (13, true) }) (v := ?v45x13) rfl (by kernel_rfl) (by kernel_rfl) (by kernel_rfl) (fun _ _ _ h => h) (Or.inl ⟨by rfl, ?y45x13⟩) hn ?r45x13
  case y45x13 => (intro wS hS; (try go_simp); (try with_reducible rfl))
  try simp only [Act.put, List.setIfInBounds_toArray, List.set_cons_zero, List.set_cons_succ]
  refine wpAnyH_take (i := 18) (oi := { dst := some 29, op := Op.load 38 (Operand.tmp 28), type := 38, pos := "law.go:47", after := #[{ on := 17, ground := Ground.data }, { on := 13, ground := Ground.guard }], guard := some (13, true) }) (v := ?v45x14) rfl (by kernel_rfl) (by kernel_rfl) (by kernel_rfl) (fun _ _ _ h => h) (Or.inl ⟨by rfl, ?y45x14⟩) hn ?r45x14
  case y45x14 => (intro wS hS; refine load_part (x := .tmp 28) ?_ ?_ (hS.at2 (eC_in o)) Tryd.underlying38 rfl infoRE; rfl; rfl; (try go_simp); (try with_reducible rfl))
  try simp only [Act.put, List.setIfInBounds_toArray, List.set_cons_zero, List.set_cons_succ]
  refine wpAnyH_take (i := 21) (oi := { dst := some 32, op := Op.fieldAddr 45 (Operand.tmp 2) 3, type := 0, pos := "law.go:47", after := #[{ on := 13, ground := Ground.guard }], guard := some (13, true) }) (v := ?v45x15) rfl (by kernel_rfl) (by kernel_rfl) (by kernel_rfl) (fun _ _ _ h => h) (Or.inl ⟨by rfl, ?y45x15⟩) hn ?r45x15
  case y45x15 => (intro wS hS; (try go_simp); (try with_reducible rfl))
  try simp only [Act.put, List.setIfInBounds_toArray, List.set_cons_zero, List.set_cons_succ]
  refine wpAnyH_take (i := 22) (oi := { dst := some 33, op := Op.load 38 (Operand.tmp 32), type := 38, pos := "law.go:47", after := #[{ on := 21, ground := Ground.data }, { on := 13, ground := Ground.guard }], guard := some (13, true) }) (v := ?v45x16) rfl (by kernel_rfl) (by kernel_rfl) (by kernel_rfl) (fun _ _ _ h => h) (Or.inl ⟨by rfl, ?y45x16⟩) hn ?r45x16
  case y45x16 => (intro wS hS; refine load_part (x := .tmp 32) ?_ ?_ (hS.at1 (eC_in n)) Tryd.underlying38 rfl infoRE; rfl; rfl; (try go_simp); (try with_reducible rfl))
  try simp only [Act.put, List.setIfInBounds_toArray, List.set_cons_zero, List.set_cons_succ]
  refine wpAnyH_take (i := 23) (oi := { dst := some 34, op := Op.fieldAddr 45 (Operand.tmp 3) 3, type := 0, pos := "law.go:47", after := #[{ on := 13, ground := Ground.guard }], guard := some (13, true) }) (v := ?v45x17) rfl (by kernel_rfl) (by kernel_rfl) (by kernel_rfl) (fun _ _ _ h => h) (Or.inl ⟨by rfl, ?y45x17⟩) hn ?r45x17
  case y45x17 => (intro wS hS; (try go_simp); (try with_reducible rfl))
  try simp only [Act.put, List.setIfInBounds_toArray, List.set_cons_zero, List.set_cons_succ]
  refine wpAnyH_take (i := 24) (oi := { dst := some 35, op := Op.load 38 (Operand.tmp 34), type := 38, pos := "law.go:47", after := #[{ on := 23, ground := Ground.data }, { on := 13, ground := Ground.guard }], guard := some (13, true) }) (v := ?v45x18) rfl (by kernel_rfl) (by kernel_rfl) (by kernel_rfl) (fun _ _ _ h => h) (Or.inl ⟨by rfl, ?y45x18⟩) hn ?r45x18
  case y45x18 => (intro wS hS; refine load_part (x := .tmp 34) ?_ ?_ (hS.at2 (eC_in o)) Tryd.underlying38 rfl infoRE; rfl; rfl; (try go_simp); (try with_reducible rfl))
  try simp only [Act.put, List.setIfInBounds_toArray, List.set_cons_zero, List.set_cons_succ]
  refine wpAnyH_ready (rs := [16]) (by kernel_rfl) (by simp) ?_
  refine AllReadyH.cons (o := { dst := some 27, op := Op.call { callee := Callee.value (Operand.func 8), args := #[Operand.tmp 26], argTypes := #[38] }, type := 58, pos := "law.go:47", after := #[{ on := 15, ground := Ground.data }, { on := 13, ground := Ground.chain }, { on := 13, ground := Ground.guard }], guard := some (13, true) }) rfl (fun K hK => ?_) AllReadyH.nil
  go_simp
  refine (HOE.out HK1.out _ hn.1).mono ?_
  rintro e wqE ⟨vE, rfl, hvE, hnq⟩
  go_wp2_with fail
  have hn := hn.new hnq
  refine hK.out _ _ (by first | exact hn | exact Upd.alloc hn _) (fun hn => ?_)
  clear hK K
  try simp only [Act.put, List.setIfInBounds_toArray, List.set_cons_zero, List.set_cons_succ]
  refine wpAnyH_ready (rs := [19]) (by kernel_rfl) (by simp) ?_
  refine AllReadyH.cons (o := { dst := some 30, op := Op.call { callee := Callee.value (Operand.func 8), args := #[Operand.tmp 29], argTypes := #[38] }, type := 58, pos := "law.go:47", after := #[{ on := 18, ground := Ground.data }, { on := 16, ground := Ground.chain }, { on := 13, ground := Ground.guard }], guard := some (13, true) }) rfl (fun K hK => ?_) AllReadyH.nil
  go_simp
  refine (HQE.out HK2.out _ hn.1).mono ?_
  rintro e wrE ⟨uE, rfl, huE, hnq⟩
  go_wp2_with fail
  have hn := hn.new hnq
  have hvE := hvE.new hnq
  refine hK.out _ _ (by first | exact hn | exact Upd.alloc hn _) (fun hn => ?_)
  clear hK K
  try simp only [Act.put, List.setIfInBounds_toArray, List.set_cons_zero, List.set_cons_succ]
  refine wpAnyH_ready (rs := [20]) (by kernel_rfl) (by simp) ?_
  refine AllReadyH.cons (o := { dst := some 31, op := Op.call { callee := Callee.value (Operand.func 9), args := #[Operand.tmp 27, Operand.tmp 30], argTypes := #[58, 58] }, type := 4, pos := "law.go:47", after := #[{ on := 16, ground := Ground.data }, { on := 19, ground := Ground.data }, { on := 19, ground := Ground.chain }, { on := 13, ground := Ground.guard }], guard := some (13, true) }) rfl (fun K hK => ?_) AllReadyH.nil
  go_simp
  refine (HSE.out HK1.out HK2.out _ _ _ hvE huE).mono ?_
  rintro e wsE ⟨rfl, hnq⟩
  go_wp2_with fail
  have hn := hn.new hnq
  clear hvE huE
  refine hK.out _ _ (by first | exact hn | exact Upd.alloc hn _) (fun hn => ?_)
  clear hK K
  try simp only [Act.put, List.setIfInBounds_toArray, List.set_cons_zero, List.set_cons_succ]
  refine wpAnyH_ready (rs := [25]) (by kernel_rfl) (by simp) ?_
  refine AllReadyH.cons (o := { dst := some 36, op := Op.call { callee := Callee.value (Operand.func 10), args := #[Operand.tmp 33, Operand.tmp 35], argTypes := #[38, 38] }, type := 4, pos := "law.go:47", after := #[{ on := 22, ground := Ground.data }, { on := 24, ground := Ground.data }, { on := 20, ground := Ground.chain }, { on := 13, ground := Ground.guard }], guard := some (13, true) }) rfl (fun K hK => ?_) AllReadyH.nil
  go_simp
  refine (HRE.out HK1.out HK2.out _ hn.1).mono ?_
  rintro e wtE ⟨rfl, hnq⟩
  go_wp2_with fail
  have hn := hn.new hnq
  refine hK.out _ _ (by first | exact hn | exact Upd.alloc hn _) (fun hn => ?_)
  clear hK K
  try simp only [Act.put, List.setIfInBounds_toArray, List.set_cons_zero, List.set_cons_succ]
  refine wpAnyH_take (i := 26) (oi := { dst := some 37, op := Op.binOp BinOp.eql 4 (Operand.tmp 31) (Operand.tmp 36) 4, type := 4, pos := "law.go:47", after := #[{ on := 20, ground := Ground.data }, { on := 25, ground := Ground.data }, { on := 13, ground := Ground.guard }], guard := some (13, true) }) (v := ?v45x19) rfl (by kernel_rfl) (by kernel_rfl) (by kernel_rfl) (fun _ _ _ h => h) (Or.inl ⟨by rfl, ?y45x19⟩) hn ?r45x19
  case y45x19 => (intro wS hS; go_simp; (try go_simp); (try with_reducible rfl))
  try simp only [Act.put, List.setIfInBounds_toArray, List.set_cons_zero, List.set_cons_succ]
  refine wpAnyH_take (i := 27) (oi := { dst := some 38, op := Op.pick (Operand.tmp 24) (Operand.tmp 37) (Operand.const (Value.bool false)), type := 4, pos := "law.go:47", after := #[{ on := 13, ground := Ground.data }, { on := 26, ground := Ground.data }], guard := none }) (v := ?v45x20) rfl (by kernel_rfl) (by kernel_rfl) (by kernel_rfl) (fun _ _ _ h => h) (Or.inl ⟨by rfl, ?y45x20⟩) hn ?r45x20
  case y45x20 => (intro wS hS; (try go_simp); (try with_reducible rfl))
  try simp only [Act.put, List.setIfInBounds_toArray, List.set_cons_zero, List.set_cons_succ]
  refine wpAnyH_take (i := 28) (oi := { dst := some 39, op := Op.move (Operand.tmp 38), type := 4, pos := "law.go:47", after := #[{ on := 27, ground := Ground.data }, { on := 25, ground := Ground.chain }], guard := none }) (v := ?v45x21) rfl (by kernel_rfl) (by kernel_rfl) (by kernel_rfl) (fun _ _ _ h => h) (Or.inl ⟨by rfl, ?y45x21⟩) hn ?r45x21
  case y45x21 => (intro wS hS; (try go_simp); (try with_reducible rfl))
  try simp only [Act.put, List.setIfInBounds_toArray, List.set_cons_zero, List.set_cons_succ]
  refine wpAnyH_take (i := 29) (oi := { dst := some 40, op := Op.fieldAddr 45 (Operand.tmp 2) 4, type := 0, pos := "law.go:47", after := #[{ on := 28, ground := Ground.guard }], guard := some (28, true) }) (v := ?v45x22) rfl (by kernel_rfl) (by kernel_rfl) (by kernel_rfl) (fun _ _ _ h => h) (Or.inl ⟨by rfl, ?y45x22⟩) hn ?r45x22
  case y45x22 => (intro wS hS; (try go_simp); (try with_reducible rfl))
  try simp only [Act.put, List.setIfInBounds_toArray, List.set_cons_zero, List.set_cons_succ]
  refine wpAnyH_take (i := 30) (oi := { dst := some 41, op := Op.load 40 (Operand.tmp 40), type := 40, pos := "law.go:47", after := #[{ on := 29, ground := Ground.data }, { on := 28, ground := Ground.guard }], guard := some (28, true) }) (v := ?v45x23) rfl (by kernel_rfl) (by kernel_rfl) (by kernel_rfl) (fun _ _ _ h => h) (Or.inl ⟨by rfl, ?y45x23⟩) hn ?r45x23
  case y45x23 => (intro wS hS; refine load_part (x := .tmp 40) ?_ ?_ (hS.at1 (dC_in n)) Tryd.underlying40 rfl infoRD; rfl; rfl; (try go_simp); (try with_reducible rfl))
  try simp only [Act.put, List.setIfInBounds_toArray, List.set_cons_zero, List.set_cons_succ]
  refine wpAnyH_take (i := 32) (oi := { dst := some 43, op := Op.fieldAddr 45 (Operand.tmp 3) 4, type := 0, pos := "law.go:47", after := #[{ on := 28, ground := Ground.guard }], guard := some (28, true) }) (v := ?v45x24) rfl (by kernel_rfl) (by kernel_rfl) (by kernel_rfl) (fun _ _ _ h => h) (Or.inl ⟨by rfl, ?y45x24⟩) hn ?r45x24
  case y45x24 => (intro wS hS; (try go_simp); (try with_reducible rfl))
  try simp only [Act.put, List.setIfInBounds_toArray, List.set_cons_zero, List.set_cons_succ]
  refine wpAnyH_take (i := 33) (oi := { dst := some 44, op := Op.load 40 (Operand.tmp 43), type := 40, pos := "law.go:47", after := #[{ on := 32, ground := Ground.data }, { on := 28, ground := Ground.guard }], guard := some (28, true) }) (v := ?v45x25) rfl (by kernel_rfl) (by kernel_rfl) (by kernel_rfl) (fun _ _ _ h => h) (Or.inl ⟨by rfl, ?y45x25⟩) hn ?r45x25
  case y45x25 => (intro wS hS; refine load_part (x := .tmp 43) ?_ ?_ (hS.at2 (dC_in o)) Tryd.underlying40 rfl infoRD; rfl; rfl; (try go_simp); (try with_reducible rfl))
  try simp only [Act.put, List.setIfInBounds_toArray, List.set_cons_zero, List.set_cons_succ]
  refine wpAnyH_take (i := 36) (oi := { dst := some 47, op := Op.fieldAddr 45 (Operand.tmp 2) 4, type := 0, pos := "law.go:47", after := #[{ on := 28, ground := Ground.guard }], guard := some (28, true) }) (v := ?v45x26) rfl (by kernel_rfl) (by kernel_rfl) (by kernel_rfl) (fun _ _ _ h => h) (Or.inl ⟨by rfl, ?y45x26⟩) hn ?r45x26
  case y45x26 => (intro wS hS; (try go_simp); (try with_reducible rfl))
  try simp only [Act.put, List.setIfInBounds_toArray, List.set_cons_zero, List.set_cons_succ]
  refine wpAnyH_take (i := 37) (oi := { dst := some 48, op := Op.load 40 (Operand.tmp 47), type := 40, pos := "law.go:47", after := #[{ on := 36, ground := Ground.data }, { on := 28, ground := Ground.guard }], guard := some (28, true) }) (v := ?v45x27) rfl (by kernel_rfl) (by kernel_rfl) (by kernel_rfl) (fun _ _ _ h => h) (Or.inl ⟨by rfl, ?y45x27⟩) hn ?r45x27
  case y45x27 => (intro wS hS; refine load_part (x := .tmp 47) ?_ ?_ (hS.at1 (dC_in n)) Tryd.underlying40 rfl infoRD; rfl; rfl; (try go_simp); (try with_reducible rfl))
  try simp only [Act.put, List.setIfInBounds_toArray, List.set_cons_zero, List.set_cons_succ]
  refine wpAnyH_take (i := 38) (oi := { dst := some 49, op := Op.fieldAddr 45 (Operand.tmp 3) 4, type := 0, pos := "law.go:47", after := #[{ on := 28, ground := Ground.guard }], guard := some (28, true) }) (v := ?v45x28) rfl (by kernel_rfl) (by kernel_rfl) (by kernel_rfl) (fun _ _ _ h => h) (Or.inl ⟨by rfl, ?y45x28⟩) hn ?r45x28
  case y45x28 => (intro wS hS; (try go_simp); (try with_reducible rfl))
  try simp only [Act.put, List.setIfInBounds_toArray, List.set_cons_zero, List.set_cons_succ]
  refine wpAnyH_take (i := 39) (oi := { dst := some 50, op := Op.load 40 (Operand.tmp 49), type := 40, pos := "law.go:47", after := #[{ on := 38, ground := Ground.data }, { on := 28, ground := Ground.guard }], guard := some (28, true) }) (v := ?v45x29) rfl (by kernel_rfl) (by kernel_rfl) (by kernel_rfl) (fun _ _ _ h => h) (Or.inl ⟨by rfl, ?y45x29⟩) hn ?r45x29
  case y45x29 => (intro wS hS; refine load_part (x := .tmp 49) ?_ ?_ (hS.at2 (dC_in o)) Tryd.underlying40 rfl infoRD; rfl; rfl; (try go_simp); (try with_reducible rfl))
  try simp only [Act.put, List.setIfInBounds_toArray, List.set_cons_zero, List.set_cons_succ]
  refine wpAnyH_ready (rs := [31]) (by kernel_rfl) (by simp) ?_
  refine AllReadyH.cons (o := { dst := some 42, op := Op.call { callee := Callee.value (Operand.func 11), args := #[Operand.tmp 41], argTypes := #[40] }, type := 63, pos := "law.go:47", after := #[{ on := 30, ground := Ground.data }, { on := 28, ground := Ground.chain }, { on := 28, ground := Ground.guard }], guard := some (28, true) }) rfl (fun K hK => ?_) AllReadyH.nil
  go_simp
  refine (HOD.out HK1.out _ hn.1).mono ?_
  rintro e wqD ⟨vD, rfl, hvD, hnq⟩
  go_wp2_with fail
  have hn := hn.new hnq
  refine hK.out _ _ (by first | exact hn | exact Upd.alloc hn _) (fun hn => ?_)
  clear hK K
  try simp only [Act.put, List.setIfInBounds_toArray, List.set_cons_zero, List.set_cons_succ]
  refine wpAnyH_ready (rs := [34]) (by kernel_rfl) (by simp) ?_
  refine AllReadyH.cons (o := { dst := some 45, op := Op.call { callee := Callee.value (Operand.func 11), args := #[Operand.tmp 44], argTypes := #[40] }, type := 63, pos := "law.go:47", after := #[{ on := 33, ground := Ground.data }, { on := 31, ground := Ground.chain }, { on := 28, ground := Ground.guard }], guard := some (28, true) }) rfl (fun K hK => ?_) AllReadyH.nil
  go_simp
  refine (HQD.out HK2.out _ hn.1).mono ?_
  rintro e wrD ⟨uD, rfl, huD, hnq⟩
  go_wp2_with fail
  have hn := hn.new hnq
  have hvD := hvD.new hnq
  refine hK.out _ _ (by first | exact hn | exact Upd.alloc hn _) (fun hn => ?_)
  clear hK K
  try simp only [Act.put, List.setIfInBounds_toArray, List.set_cons_zero, List.set_cons_succ]
  refine wpAnyH_ready (rs := [35]) (by kernel_rfl) (by simp) ?_
  refine AllReadyH.cons (o := { dst := some 46, op := Op.call { callee := Callee.value (Operand.func 12), args := #[Operand.tmp 42, Operand.tmp 45], argTypes := #[63, 63] }, type := 4, pos := "law.go:47", after := #[{ on := 31, ground := Ground.data }, { on := 34, ground := Ground.data }, { on := 34, ground := Ground.chain }, { on := 28, ground := Ground.guard }], guard := some (28, true) }) rfl (fun K hK => ?_) AllReadyH.nil
  go_simp
  refine (HSD.out HK1.out HK2.out _ _ _ hvD huD).mono ?_
  rintro e wsD ⟨rfl, hnq⟩
  go_wp2_with fail
  have hn := hn.new hnq
  clear hvD huD
  refine hK.out _ _ (by first | exact hn | exact Upd.alloc hn _) (fun hn => ?_)
  clear hK K
  try simp only [Act.put, List.setIfInBounds_toArray, List.set_cons_zero, List.set_cons_succ]
  refine wpAnyH_ready (rs := [40]) (by kernel_rfl) (by simp) ?_
  refine AllReadyH.cons (o := { dst := some 51, op := Op.call { callee := Callee.value (Operand.func 13), args := #[Operand.tmp 48, Operand.tmp 50], argTypes := #[40, 40] }, type := 4, pos := "law.go:47", after := #[{ on := 37, ground := Ground.data }, { on := 39, ground := Ground.data }, { on := 35, ground := Ground.chain }, { on := 28, ground := Ground.guard }], guard := some (28, true) }) rfl (fun K hK => ?_) AllReadyH.nil
  go_simp
  refine (HRD.out HK1.out HK2.out _ hn.1).mono ?_
  rintro e wtD ⟨rfl, hnq⟩
  go_wp2_with fail
  have hn := hn.new hnq
  refine hK.out _ _ (by first | exact hn | exact Upd.alloc hn _) (fun hn => ?_)
  clear hK K
  try simp only [Act.put, List.setIfInBounds_toArray, List.set_cons_zero, List.set_cons_succ]
  refine wpAnyH_take (i := 41) (oi := { dst := some 52, op := Op.binOp BinOp.eql 4 (Operand.tmp 46) (Operand.tmp 51) 4, type := 4, pos := "law.go:47", after := #[{ on := 35, ground := Ground.data }, { on := 40, ground := Ground.data }, { on := 28, ground := Ground.guard }], guard := some (28, true) }) (v := ?v45x30) rfl (by kernel_rfl) (by kernel_rfl) (by kernel_rfl) (fun _ _ _ h => h) (Or.inl ⟨by rfl, ?y45x30⟩) hn ?r45x30
  case y45x30 => (intro wS hS; go_simp; (try go_simp); (try with_reducible rfl))
  try simp only [Act.put, List.setIfInBounds_toArray, List.set_cons_zero, List.set_cons_succ]
  refine wpAnyH_take (i := 42) (oi := { dst := some 53, op := Op.pick (Operand.tmp 39) (Operand.tmp 52) (Operand.const (Value.bool false)), type := 4, pos := "law.go:47", after := #[{ on := 28, ground := Ground.data }, { on := 41, ground := Ground.data }], guard := none }) (v := ?v45x31) rfl (by kernel_rfl) (by kernel_rfl) (by kernel_rfl) (fun _ _ _ h => h) (Or.inl ⟨by rfl, ?y45x31⟩) hn ?r45x31
  case y45x31 => (intro wS hS; (try go_simp); (try with_reducible rfl))
  try simp only [Act.put, List.setIfInBounds_toArray, List.set_cons_zero, List.set_cons_succ]
  refine wpAnyH_take (i := 43) (oi := { dst := some 54, op := Op.move (Operand.tmp 53), type := 4, pos := "law.go:47", after := #[{ on := 42, ground := Ground.data }, { on := 40, ground := Ground.chain }], guard := none }) (v := ?v45x32) rfl (by kernel_rfl) (by kernel_rfl) (by kernel_rfl) (fun _ _ _ h => h) (Or.inl ⟨by rfl, ?y45x32⟩) hn ?r45x32
  case y45x32 => (intro wS hS; (try go_simp); (try with_reducible rfl))
  try simp only [Act.put, List.setIfInBounds_toArray, List.set_cons_zero, List.set_cons_succ]
  refine wpAnyH_take (i := 44) (oi := { dst := some 55, op := Op.fieldAddr 45 (Operand.tmp 2) 5, type := 0, pos := "law.go:47", after := #[{ on := 43, ground := Ground.guard }], guard := some (43, true) }) (v := ?v45x33) rfl (by kernel_rfl) (by kernel_rfl) (by kernel_rfl) (fun _ _ _ h => h) (Or.inl ⟨by rfl, ?y45x33⟩) hn ?r45x33
  case y45x33 => (intro wS hS; (try go_simp); (try with_reducible rfl))
  try simp only [Act.put, List.setIfInBounds_toArray, List.set_cons_zero, List.set_cons_succ]
  refine wpAnyH_take (i := 45) (oi := { dst := some 56, op := Op.load 43 (Operand.tmp 55), type := 43, pos := "law.go:47", after := #[{ on := 44, ground := Ground.data }, { on := 43, ground := Ground.guard }], guard := some (43, true) }) (v := ?v45x34) rfl (by kernel_rfl) (by kernel_rfl) (by kernel_rfl) (fun _ _ _ h => h) (Or.inl ⟨by rfl, ?y45x34⟩) hn ?r45x34
  case y45x34 => (intro wS hS; refine load_part (x := .tmp 55) ?_ ?_ (hS.at1 (cC_in n)) Tryd.underlying43 rfl infoRC; rfl; rfl; (try go_simp); (try with_reducible rfl))
  try simp only [Act.put, List.setIfInBounds_toArray, List.set_cons_zero, List.set_cons_succ]
  refine wpAnyH_take (i := 47) (oi := { dst := some 58, op := Op.fieldAddr 45 (Operand.tmp 3) 5, type := 0, pos := "law.go:47", after := #[{ on := 43, ground := Ground.guard }], guard := some (43, true) }) (v := ?v45x35) rfl (by kernel_rfl) (by kernel_rfl) (by kernel_rfl) (fun _ _ _ h => h) (Or.inl ⟨by rfl, ?y45x35⟩) hn ?r45x35
  case y45x35 => (intro wS hS; (try go_simp); (try with_reducible rfl))
  try simp only [Act.put, List.setIfInBounds_toArray, List.set_cons_zero, List.set_cons_succ]
  refine wpAnyH_take (i := 48) (oi := { dst := some 59, op := Op.load 43 (Operand.tmp 58), type := 43, pos := "law.go:47", after := #[{ on := 47, ground := Ground.data }, { on := 43, ground := Ground.guard }], guard := some (43, true) }) (v := ?v45x36) rfl (by kernel_rfl) (by kernel_rfl) (by kernel_rfl) (fun _ _ _ h => h) (Or.inl ⟨by rfl, ?y45x36⟩) hn ?r45x36
  case y45x36 => (intro wS hS; refine load_part (x := .tmp 58) ?_ ?_ (hS.at2 (cC_in o)) Tryd.underlying43 rfl infoRC; rfl; rfl; (try go_simp); (try with_reducible rfl))
  try simp only [Act.put, List.setIfInBounds_toArray, List.set_cons_zero, List.set_cons_succ]
  refine wpAnyH_take (i := 51) (oi := { dst := some 62, op := Op.fieldAddr 45 (Operand.tmp 2) 5, type := 0, pos := "law.go:47", after := #[{ on := 43, ground := Ground.guard }], guard := some (43, true) }) (v := ?v45x37) rfl (by kernel_rfl) (by kernel_rfl) (by kernel_rfl) (fun _ _ _ h => h) (Or.inl ⟨by rfl, ?y45x37⟩) hn ?r45x37
  case y45x37 => (intro wS hS; (try go_simp); (try with_reducible rfl))
  try simp only [Act.put, List.setIfInBounds_toArray, List.set_cons_zero, List.set_cons_succ]
  refine wpAnyH_take (i := 52) (oi := { dst := some 63, op := Op.load 43 (Operand.tmp 62), type := 43, pos := "law.go:47", after := #[{ on := 51, ground := Ground.data }, { on := 43, ground := Ground.guard }], guard := some (43, true) }) (v := ?v45x38) rfl (by kernel_rfl) (by kernel_rfl) (by kernel_rfl) (fun _ _ _ h => h) (Or.inl ⟨by rfl, ?y45x38⟩) hn ?r45x38
  case y45x38 => (intro wS hS; refine load_part (x := .tmp 62) ?_ ?_ (hS.at1 (cC_in n)) Tryd.underlying43 rfl infoRC; rfl; rfl; (try go_simp); (try with_reducible rfl))
  try simp only [Act.put, List.setIfInBounds_toArray, List.set_cons_zero, List.set_cons_succ]
  refine wpAnyH_take (i := 53) (oi := { dst := some 64, op := Op.fieldAddr 45 (Operand.tmp 3) 5, type := 0, pos := "law.go:47", after := #[{ on := 43, ground := Ground.guard }], guard := some (43, true) }) (v := ?v45x39) rfl (by kernel_rfl) (by kernel_rfl) (by kernel_rfl) (fun _ _ _ h => h) (Or.inl ⟨by rfl, ?y45x39⟩) hn ?r45x39
  case y45x39 => (intro wS hS; (try go_simp); (try with_reducible rfl))
  try simp only [Act.put, List.setIfInBounds_toArray, List.set_cons_zero, List.set_cons_succ]
  refine wpAnyH_take (i := 54) (oi := { dst := some 65, op := Op.load 43 (Operand.tmp 64), type := 43, pos := "law.go:47", after := #[{ on := 53, ground := Ground.data }, { on := 43, ground := Ground.guard }], guard := some (43, true) }) (v := ?v45x40) rfl (by kernel_rfl) (by kernel_rfl) (by kernel_rfl) (fun _ _ _ h => h) (Or.inl ⟨by rfl, ?y45x40⟩) hn ?r45x40
  case y45x40 => (intro wS hS; refine load_part (x := .tmp 64) ?_ ?_ (hS.at2 (cC_in o)) Tryd.underlying43 rfl infoRC; rfl; rfl; (try go_simp); (try with_reducible rfl))
  try simp only [Act.put, List.setIfInBounds_toArray, List.set_cons_zero, List.set_cons_succ]
  refine wpAnyH_ready (rs := [46]) (by kernel_rfl) (by simp) ?_
  refine AllReadyH.cons (o := { dst := some 57, op := Op.call { callee := Callee.value (Operand.func 14), args := #[Operand.tmp 56], argTypes := #[43] }, type := 69, pos := "law.go:47", after := #[{ on := 45, ground := Ground.data }, { on := 43, ground := Ground.chain }, { on := 43, ground := Ground.guard }], guard := some (43, true) }) rfl (fun K hK => ?_) AllReadyH.nil
  go_simp
  refine (HOC.out HK1.out _ hn.1).mono ?_
  rintro e wqC ⟨vC, rfl, hvC, hnq⟩
  go_wp2_with fail
  have hn := hn.new hnq
  refine hK.out _ _ (by first | exact hn | exact Upd.alloc hn _) (fun hn => ?_)
  clear hK K
  try simp only [Act.put, List.setIfInBounds_toArray, List.set_cons_zero, List.set_cons_succ]
  refine wpAnyH_ready (rs := [49]) (by kernel_rfl) (by simp) ?_
  refine AllReadyH.cons (o := { dst := some 60, op := Op.call { callee := Callee.value (Operand.func 14), args := #[Operand.tmp 59], argTypes := #[43] }, type := 69, pos := "law.go:47", after := #[{ on := 48, ground := Ground.data }, { on := 46, ground := Ground.chain }, { on := 43, ground := Ground.guard }], guard := some (43, true) }) rfl (fun K hK => ?_) AllReadyH.nil
  go_simp
  refine (HQC.out HK2.out _ hn.1).mono ?_
  rintro e wrC ⟨uC, rfl, huC, hnq⟩
  go_wp2_with fail
  have hn := hn.new hnq
  have hvC := hvC.new hnq
  refine hK.out _ _ (by first | exact hn | exact Upd.alloc hn _) (fun hn => ?_)
  clear hK K
  try simp only [Act.put, List.setIfInBounds_toArray, List.set_cons_zero, List.set_cons_succ]
  refine wpAnyH_ready (rs := [50]) (by kernel_rfl) (by simp) ?_
  refine AllReadyH.cons (o := { dst := some 61, op := Op.call { callee := Callee.value (Operand.func 15), args := #[Operand.tmp 57, Operand.tmp 60], argTypes := #[69, 69] }, type := 4, pos := "law.go:47", after := #[{ on := 46, ground := Ground.data }, { on := 49, ground := Ground.data }, { on := 49, ground := Ground.chain }, { on := 43, ground := Ground.guard }], guard := some (43, true) }) rfl (fun K hK => ?_) AllReadyH.nil
  go_simp
  refine (HSC.out HK1.out HK2.out _ _ _ hvC huC).mono ?_
  rintro e wsC ⟨rfl, hnq⟩
  go_wp2_with fail
  have hn := hn.new hnq
  clear hvC huC
  refine hK.out _ _ (by first | exact hn | exact Upd.alloc hn _) (fun hn => ?_)
  clear hK K
  try simp only [Act.put, List.setIfInBounds_toArray, List.set_cons_zero, List.set_cons_succ]
  refine wpAnyH_ready (rs := [55]) (by kernel_rfl) (by simp) ?_
  refine AllReadyH.cons (o := { dst := some 66, op := Op.call { callee := Callee.value (Operand.func 16), args := #[Operand.tmp 63, Operand.tmp 65], argTypes := #[43, 43] }, type := 4, pos := "law.go:47", after := #[{ on := 52, ground := Ground.data }, { on := 54, ground := Ground.data }, { on := 50, ground := Ground.chain }, { on := 43, ground := Ground.guard }], guard := some (43, true) }) rfl (fun K hK => ?_) AllReadyH.nil
  go_simp
  refine (HRC.out HK1.out HK2.out _ hn.1).mono ?_
  rintro e wtC ⟨rfl, hnq⟩
  go_wp2_with fail
  have hn := hn.new hnq
  refine hK.out _ _ (by first | exact hn | exact Upd.alloc hn _) (fun hn => ?_)
  clear hK K
  try simp only [Act.put, List.setIfInBounds_toArray, List.set_cons_zero, List.set_cons_succ]
  refine wpAnyH_take (i := 56) (oi := { dst := some 67, op := Op.binOp BinOp.eql 4 (Operand.tmp 61) (Operand.tmp 66) 4, type := 4, pos := "law.go:47", after := #[{ on := 50, ground := Ground.data }, { on := 55, ground := Ground.data }, { on := 43, ground := Ground.guard }], guard := some (43, true) }) (v := ?v45x41) rfl (by kernel_rfl) (by kernel_rfl) (by kernel_rfl) (fun _ _ _ h => h) (Or.inl ⟨by rfl, ?y45x41⟩) hn ?r45x41
  case y45x41 => (intro wS hS; go_simp; (try go_simp); (try with_reducible rfl))
  try simp only [Act.put, List.setIfInBounds_toArray, List.set_cons_zero, List.set_cons_succ]
  refine wpAnyH_take (i := 57) (oi := { dst := some 68, op := Op.pick (Operand.tmp 54) (Operand.tmp 67) (Operand.const (Value.bool false)), type := 4, pos := "law.go:47", after := #[{ on := 43, ground := Ground.data }, { on := 56, ground := Ground.data }], guard := none }) (v := ?v45x42) rfl (by kernel_rfl) (by kernel_rfl) (by kernel_rfl) (fun _ _ _ h => h) (Or.inl ⟨by rfl, ?y45x42⟩) hn ?r45x42
  case y45x42 => (intro wS hS; (try go_simp); (try with_reducible rfl))
  try simp only [Act.put, List.setIfInBounds_toArray, List.set_cons_zero, List.set_cons_succ]
  refine wpAnyH_take (i := 58) (oi := { dst := some 69, op := Op.move (Operand.tmp 68), type := 4, pos := "law.go:47", after := #[{ on := 57, ground := Ground.data }, { on := 55, ground := Ground.chain }], guard := none }) (v := ?v45x43) rfl (by kernel_rfl) (by kernel_rfl) (by kernel_rfl) (fun _ _ _ h => h) (Or.inl ⟨by rfl, ?y45x43⟩) hn ?r45x43
  case y45x43 => (intro wS hS; (try go_simp); (try with_reducible rfl))
  try simp only [Act.put, List.setIfInBounds_toArray, List.set_cons_zero, List.set_cons_succ]
  refine wpAnyH_ready (rs := [59]) (by kernel_rfl) (by simp) ?_
  refine AllReadyH.cons (o := { dst := some 70, op := Op.call { callee := Callee.value (Operand.func 17), args := #[], argTypes := #[] }, type := 4, pos := "law.go:47", after := #[{ on := 58, ground := Ground.chain }, { on := 58, ground := Ground.guard }], guard := some (58, true) }) rfl (fun K hK => ?_) AllReadyH.nil
  go_simp
  refine (HAW.out _ hn.1).mono ?_
  rintro e wz ⟨rfl, hnq⟩
  go_wp2_with fail
  have hn := hn.new hnq
  refine hK.out _ _ (by first | exact hn | exact Upd.alloc hn _) (fun hn => ?_)
  clear hK K
  try simp only [Act.put, List.setIfInBounds_toArray, List.set_cons_zero, List.set_cons_succ]
  refine wpAnyH_take (i := 60) (oi := { dst := some 71, op := Op.pick (Operand.tmp 69) (Operand.tmp 70) (Operand.const (Value.bool false)), type := 4, pos := "law.go:47", after := #[{ on := 58, ground := Ground.data }, { on := 59, ground := Ground.data }], guard := none }) (v := ?v45x44) rfl (by kernel_rfl) (by kernel_rfl) (by kernel_rfl) (fun _ _ _ h => h) (Or.inl ⟨by rfl, ?y45x44⟩) hn ?r45x44
  case y45x44 => (intro wS hS; (try go_simp); (try with_reducible rfl))
  try simp only [Act.put, List.setIfInBounds_toArray, List.set_cons_zero, List.set_cons_succ]
  refine wpAnyH_take (i := 61) (oi := { dst := some 4, op := Op.assign (Operand.tmp 71), type := 4, pos := "law.go:47", after := #[{ on := 60, ground := Ground.data }, { on := 59, ground := Ground.chain }, { on := 0, ground := Ground.phase }, { on := 1, ground := Ground.phase }, { on := 2, ground := Ground.phase }, { on := 3, ground := Ground.phase }, { on := 4, ground := Ground.phase }, { on := 5, ground := Ground.phase }, { on := 6, ground := Ground.phase }, { on := 7, ground := Ground.phase }, { on := 8, ground := Ground.phase }, { on := 9, ground := Ground.phase }, { on := 10, ground := Ground.phase }, { on := 11, ground := Ground.phase }, { on := 12, ground := Ground.phase }, { on := 13, ground := Ground.phase }, { on := 14, ground := Ground.phase }, { on := 15, ground := Ground.phase }, { on := 16, ground := Ground.phase }, { on := 17, ground := Ground.phase }, { on := 18, ground := Ground.phase }, { on := 19, ground := Ground.phase }, { on := 20, ground := Ground.phase }, { on := 21, ground := Ground.phase }, { on := 22, ground := Ground.phase }, { on := 23, ground := Ground.phase }, { on := 24, ground := Ground.phase }, { on := 25, ground := Ground.phase }, { on := 26, ground := Ground.phase }, { on := 27, ground := Ground.phase }, { on := 28, ground := Ground.phase }, { on := 29, ground := Ground.phase }, { on := 30, ground := Ground.phase }, { on := 31, ground := Ground.phase }, { on := 32, ground := Ground.phase }, { on := 33, ground := Ground.phase }, { on := 34, ground := Ground.phase }, { on := 35, ground := Ground.phase }, { on := 36, ground := Ground.phase }, { on := 37, ground := Ground.phase }, { on := 38, ground := Ground.phase }, { on := 39, ground := Ground.phase }, { on := 40, ground := Ground.phase }, { on := 41, ground := Ground.phase }, { on := 42, ground := Ground.phase }, { on := 43, ground := Ground.phase }, { on := 44, ground := Ground.phase }, { on := 45, ground := Ground.phase }, { on := 46, ground := Ground.phase }, { on := 47, ground := Ground.phase }, { on := 48, ground := Ground.phase }, { on := 49, ground := Ground.phase }, { on := 50, ground := Ground.phase }, { on := 51, ground := Ground.phase }, { on := 52, ground := Ground.phase }, { on := 53, ground := Ground.phase }, { on := 54, ground := Ground.phase }, { on := 55, ground := Ground.phase }, { on := 56, ground := Ground.phase }, { on := 57, ground := Ground.phase }, { on := 58, ground := Ground.phase }, { on := 59, ground := Ground.phase }, { on := 60, ground := Ground.phase }], guard := none }) (v := ?v45x45) rfl (by kernel_rfl) (by kernel_rfl) (by kernel_rfl) (fun _ _ _ h => h) (Or.inl ⟨by rfl, ?y45x45⟩) hn ?r45x45
  case y45x45 => (intro wS hS; (try go_simp); (try with_reducible rfl))
  try simp only [Act.put, List.setIfInBounds_toArray, List.set_cons_zero, List.set_cons_succ]
  refine wpAnyH_done (by kernel_rfl) ?_ _
  refine NoPanic.normal ?_
  have HZ := hid hn
  clear hn
  go_wp2_with fail
  go_ret
  exact ⟨rfl, HZ.out.1⟩
end Go.Proofs.YtbllpajibhiobaaDoor
