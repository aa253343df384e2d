/-
  EntrySame: for every input the law returns true, and what it was handed reads as it did. No condition.
-/
import Derived.Test.YtbllpajibhiobaaDoorRows
import Derived.Test.YtbllpajibhiobaaDoorJ13
import Derived.Test.YtbllpajibhiobaaDoorJ14
import Derived.ProofKit
import Derived.OpenShut
import Derived.ShutString
import Derived.ChangeOld
import Derived.Below
import Derived.Lib.SmallJoins
import Derived.LaidMore
import Derived.Lay
import Derived.SevenTiedAt
import Derived.Stop.Joined
import Derived.Test.YtbllpajibhiobaaDoorCards
import Derived.Test.YtbllpajibhiobaaDoorTie
import Derived.Test.YtbllpajibhiobaaDoorJ0

namespace Go.Proofs.YtbllpajibhiobaaDoor.entrySame
open Go.ChangeShapes Go.WideShapes Go.ChangeAt Go.RowKit Go.Proofs.Own
open Go.ChangeMaps (open_string shut_string)

theorem own : ownKnob Tryd.prog.godebug = none := by kernel_rfl
theorem laidOut : laidOutB Tryd.prog = true := by kernel_rfl

def laid : List (String × DataW Unit) := [("dobby/entry.forms", Rows.laid_dobby_entry_forms)]
section
variable {H : Type} {enc : TypeId × Value → H} {P : Program} {w : World} {base : Nat} {spare : Nat → Bool} {held : Bool}
theorem field1 {t : TypeId} {fs : Array Field} {fuel : Nat} {cs : List Value} {Ds : List (DataW H)} {ps : List MemPlace} (hu : P.underlying t = some (.struct fs)) (h : DataW.trod enc P w base spare held fuel t cs = some (.agg Ds, ps)) (i : Nat) {f : Field} (hf : fs[i]? = some f)
    (hc : P.cellsOf f.type = 1) {u : Value} (hv : cs[f.offset]? = some u) {D : DataW H} (hD : Ds[i]? = some D) : ∃ n p, DataW.trod enc P w base spare held n f.type [u] = some (D, p) := by
  obtain ⟨xs, n, _, hx, _, hlen, hg⟩ := DataW.trod_struct hu h
  have hi : i < xs.length := by rw [hlen]; exact (Array.getElem?_eq_some_iff.1 hf).1
  have g := (hg i f hf).trans (List.getElem?_eq_getElem hi)
  rw [hc] at g
  obtain ⟨hl, hu2⟩ := List.getElem?_eq_some_iff.1 hv
  rw [List.drop_eq_getElem_cons hl, hu2] at g
  have hd : Ds = xs.map (·.1) := DataW.agg.inj (Prod.mk.inj hx).1
  rw [hd, List.getElem?_map, List.getElem?_eq_getElem hi] at hD
  refine ⟨n, xs[i].2, g.trans ?_⟩
  have : xs[i].1 = D := by simpa using hD
  rw [← this]
end
theorem form_cells {w : World} {enc : TypeId × Value → Unit} {base : Nat} {spare : Nat → Bool} {held : Bool} {fuel : Nat} {cs : List Value} {z : Int} {a b c : Bool} {ps : List MemPlace}
    (h : DataW.trod enc Tryd.prog w base spare held fuel 107 cs = some (.agg [.lit (.int .i64 z), .lit (.bool a), .lit (.bool b), .lit (.bool c)], ps)) : cs = [.int .i64 z, .bool a, .bool b, .bool c] := by
  have hl := struct_len Tryd.underlying107 h
  rw [show Tryd.prog.cellsOf 107 = 4 by kernel_rfl] at hl
  obtain ⟨c0, c1, c2, c3, rfl⟩ : ∃ c0 c1 c2 c3, cs = [c0, c1, c2, c3] := by
    match cs, hl with
    | [c0, c1, c2, c3], _ => exact ⟨c0, c1, c2, c3, rfl⟩
  obtain ⟨_, _, g0⟩ := field1 Tryd.underlying107 h 0 rfl (by kernel_rfl) (u := c0) rfl rfl
  obtain ⟨_, _, g1⟩ := field1 Tryd.underlying107 h 1 rfl (by kernel_rfl) (u := c1) rfl rfl
  obtain ⟨_, _, g2⟩ := field1 Tryd.underlying107 h 2 rfl (by kernel_rfl) (u := c2) rfl rfl
  obtain ⟨_, _, g3⟩ := field1 Tryd.underlying107 h 3 rfl (by kernel_rfl) (u := c3) rfl rfl
  obtain ⟨x0, e0, d0, _⟩ := DataW.trod_int Tryd.underlying3 g0
  obtain ⟨x1, e1, d1⟩ := DataW.trod_bool Tryd.underlying4 g1
  obtain ⟨x2, e2, d2⟩ := DataW.trod_bool Tryd.underlying4 g2
  obtain ⟨x3, e3, d3⟩ := DataW.trod_bool Tryd.underlying4 g3
  simp only [Prod.mk.injEq, DataW.lit.injEq, Lit.int.injEq, Lit.bool.injEq, true_and] at d0 d1 d2 d3
  rw [List.cons.inj e0 |>.1, List.cons.inj e1 |>.1, List.cons.inj e2 |>.1, List.cons.inj e3 |>.1, d0.1, d1.1, d2.1, d3.1]
theorem forms_of {W : World} (h : laidMetH Tryd.prog laid W) : Fms W := by
  intro j v hj
  rw [MakeChecks.laidMetH_plain _ _ _ (by kernel_rfl)] at h
  obtain ⟨ps, ⟨g, t, cs, fuel, p, q, hg, ht, hv, hd, _, _⟩, _, _⟩ := h
  obtain rfl := Option.some.inj ((show Tryd.prog.globalNamed "dobby/entry.forms" = some 0 by kernel_rfl).symm.trans hg)
  obtain rfl := Option.some.inj ((show (Tryd.prog.globals[0]?).map (·.type) = some 109 by kernel_rfl).symm.trans ht)
  obtain ⟨xs, m, _, ex, _, hl, hel⟩ := DataW.trod_array Tryd.underlying109 hd
  have c4 : Tryd.prog.cellsOf 107 = 4 := by kernel_rfl
  rw [Nat.zero_add, World.var?_cell hg hv j]
  have hx := DataW.agg.inj (Prod.mk.inj ex).1
  obtain ⟨x0, x1, x2, x3, x4, x5, x6, x7, rfl⟩ : ∃ x0 x1 x2 x3 x4 x5 x6 x7, xs = [x0, x1, x2, x3, x4, x5, x6, x7] := by
    match xs, hl with
    | [x0, x1, x2, x3, x4, x5, x6, x7], _ => exact ⟨x0, x1, x2, x3, x4, x5, x6, x7, rfl⟩
  simp only [List.map_cons, List.map_nil, List.cons.injEq, and_true] at hx
  obtain ⟨h0, h1, h2, h3, h4, h5, h6, h7⟩ := hx
  have row : ∀ r, r < 8 → (cs.toList.drop (r * 4)).take 4 = (fTab.toList.drop (r * 4)).take 4 := by
    intro r hr
    have E := hel r hr
    rw [c4] at E
    match r, hr with
    | 0, _ => exact form_cells (E.trans (congrArg some (Prod.ext h0.symm rfl)))
    | 1, _ => exact form_cells (E.trans (congrArg some (Prod.ext h1.symm rfl)))
    | 2, _ => exact form_cells (E.trans (congrArg some (Prod.ext h2.symm rfl)))
    | 3, _ => exact form_cells (E.trans (congrArg some (Prod.ext h3.symm rfl)))
    | 4, _ => exact form_cells (E.trans (congrArg some (Prod.ext h4.symm rfl)))
    | 5, _ => exact form_cells (E.trans (congrArg some (Prod.ext h5.symm rfl)))
    | 6, _ => exact form_cells (E.trans (congrArg some (Prod.ext h6.symm rfl)))
    | 7, _ => exact form_cells (E.trans (congrArg some (Prod.ext h7.symm rfl)))
  have hj32 : j < 32 := (Array.getElem?_eq_some_iff.1 hj).1
  have e := congrArg (·[j % 4]?) (row (j / 4) (by omega))
  simp only [List.getElem?_take_of_lt (Nat.mod_lt j (by decide : 0 < 4)), List.getElem?_drop] at e
  rw [show j / 4 * 4 + j % 4 = j by omega] at e
  rw [← Array.getElem?_toList, e, Array.getElem?_toList, hj]

set_option maxRecDepth 100000 in
theorem lifted (os : Os) (started : os.Started) (H : Type) (enc : TypeId × Value → H) :
    ReturnsInHanded {} Tryd.checked os 3 .any (fun w args => (Rows.entrySameSpec.pre enc Tryd.prog Tryd.f3 Rows.entrySameRow.domain false w args ∧ laidMetH Tryd.prog laid w) ∧ sizedMet enc Tryd.prog Tryd.f3 (OpenSpec.ofChange Rows.entrySameSpec) false w args) (Rows.entrySameSpec.post enc Tryd.prog Tryd.f3 false true false false) := by
  refine returnsInHanded_of_change_and (C := Tryd.checked) (X := fun w _ => laidMetH Tryd.prog laid w) (fun _ _ _ hh h => h.of_heap hh) own started (by kernel_rfl) Tryd.func3
    (ChangeSpec.witness_shaped (enc := enc) (C := Tryd.checked) (os := os) (X := fun w _ => laidMetH Tryd.prog laid w) false (World.laidAll Tryd.prog os laid) #[.agg #[.string ByteArray.empty, .string ByteArray.empty, .int .i64 0, .int .u32 0, .int .u8 0, .bool false, .int .u32 0, .int .u32 0, .bool false, .int .u32 0, .int .u32 0, .int .u8 0, .bool false, .string ByteArray.empty, .int .i64 0, .int .u32 0, .int .u8 0, .bool false, .slice none 0 0, .int .i64 0, .int .u8 0, .int .u32 0, .slice none 0 0, .slice none 0 0, .bool false, .int .u32 0, .slice none 0 0, .string ByteArray.empty, .slice none 0 0, .slice none 0 0], .agg #[.string ByteArray.empty, .string ByteArray.empty, .int .i64 0, .int .u32 0, .int .u8 0, .bool false, .int .u32 0, .int .u32 0, .bool false, .int .u32 0, .int .u32 0, .int .u8 0, .bool false, .string ByteArray.empty, .int .i64 0, .int .u32 0, .int .u8 0, .bool false, .slice none 0 0, .int .i64 0, .int .u8 0, .int .u32 0, .slice none 0 0, .slice none 0 0, .bool false, .int .u32 0, .slice none 0 0, .string ByteArray.empty, .slice none 0 0, .slice none 0 0]] 12 (World.laidAll_os _ _ _)
      (World.shaped_of_ZipB (by kernel_rfl) (by kernel_rfl)) (by kernel_rfl) (by kernel_rfl) (by kernel_rfl)
      (by rw [MakeChecks.laidMetH_plain _ _ _ (by kernel_rfl)]; exact laidMet_laidAll _ (by kernel_rfl) (by kernel_rfl))) ?_
  intro W base args ds gs before hval0 hW hcnd hsz hL _
  have hval : ∀ (j : Nat) t v, Tryd.f3.params[j]? = some t → args[j]? = some v → Value.okWide Tryd.prog W .any base t v := hval0
  have hW' := hW
  obtain ⟨p, q, hA0, hV, rfl, hfz, hnd⟩ := hW
  have hA : DataW.TrodAll enc Tryd.prog W 0 (fun _ => true) true Tryd.f3.params.toList args.toList ds p := hA0
  rw [Tryd.params3] at hA hval
  obtain ⟨v0, vs0, d0, ds0, p0, q0, hargs, rfl, rfl, h0, r0⟩ := trodAll_cons hA
  obtain ⟨v1, vs1, d1, ds1, p1, q1, rfl, rfl, rfl, h1, r1⟩ := trodAll_cons r0
  obtain ⟨rfl, rfl, rfl⟩ := trodAll_nil r1
  obtain rfl : args = #[v0, v1] := by cases args; simp_all
  obtain ⟨rfl, rfl⟩ := trodVars_none hV
  have k0 := h0
  have lt0 : ∀ x ∈ p0, x.block < W.heap.size := by obtain ⟨m, hm⟩ := k0; exact DataW.trod_lt m _ _ _ hm
  have k1 := h1
  have lt1 : ∀ x ∈ p1, x.block < W.heap.size := by obtain ⟨m, hm⟩ := k1; exact DataW.trod_lt m _ _ _ hm
  have L0 : Light Tryd.prog 45 d0 := Light.arg hsz (j := 0) rfl rfl
  have L1 : Light Tryd.prog 45 d1 := Light.arg hsz (j := 1) rfl rfl
  obtain ⟨cs0, rfl, hs0⟩ := okWide_struct Tryd.underlying45 (hval 0 45 v0 rfl rfl)
  obtain ⟨cs1, rfl, hs1⟩ := okWide_struct Tryd.underlying45 (hval 1 45 v1 rfl rfl)
  obtain ⟨f0, t0⟩ := h0
  obtain ⟨f1, t1⟩ := h1
  obtain ⟨n0, e0, ok0, sz0, _⟩ := ent_of f0 cs0.toList _ t0 L0
  obtain ⟨n1, e1, ok1, sz1, _⟩ := ent_of f1 cs1.toList _ t1 L1
  obtain rfl : cs0 = entC n0 := Array.toList_inj.mp e0
  obtain rfl : cs1 = entC n1 := Array.toList_inj.mp e1
  clear hA0 hval0
  refine (entrySame_walk n0 n1 W (forms_of hL) ok0 ok1 sz0 sz1).mono fun e W' ⟨he, nw⟩ => ?_
  have bel := New.below nw
  subst he
  exact ⟨_, rfl, _, _, _, [], _, [], hW', trodAll_mk1 (shut_bool Tryd.underlying4 _), (trodAll_cons_mk (Below.trod laidOut (by kernel_rfl) (of_decide_eq_true (by kernel_rfl)) k0 bel lt0) (trodAll_cons_mk (Below.trod laidOut (by kernel_rfl) (of_decide_eq_true (by kernel_rfl)) k1 bel lt1) trodAll_mk0)), rfl, bel.frame _, fun h => by cases h⟩

theorem over : Rows.entrySameRow.holds Tryd.pinned (OpenSpec.ofChange Rows.entrySameSpec) :=
  OpenClaim.holds_of_wide 3 Tryd.f3 rfl rfl rfl rfl rfl rfl rfl ⟨rfl, rfl, rfl, rfl, rfl⟩ rfl rfl rfl rfl rfl (by kernel_rfl) Tryd.func3 (by kernel_rfl)
    (of_decide_eq_true (by kernel_rfl)) (by unfold Func.isWrapper; first | (rw [if_pos (by decide +kernel)]; kernel_rfl) | (rw [if_neg (by decide +kernel)]; exact ⟨rfl, rfl⟩))
    (fun os started H enc _ => lifted os started H enc)

/-- THE STATEMENT -/
theorem proved : Rows.EntrySameCardSaid :=
  Claim7.holds_tied_plain_at .later [] [.data] true Rows.entrySameCard.stood.harness false
    over (fun _ h => by cases h) (by kernel_rfl) (fun _ h => by cases h) entrySame_row_tie rfl ⟨rfl, rfl⟩ (by kernel_rfl) rfl
    (fun f fn hf hfn => by
      obtain rfl : f = 3 := Option.some.inj ((show Tryd.prog.funcNamed "dobby/dobbylaw09.EntrySame" = some 3 by kernel_rfl).symm.trans hf) |>.symm
      obtain rfl : fn = Tryd.f3 := (Option.some.inj (Tryd.func3.symm.trans hfn)).symm
      exact ⟨by kernel_rfl, fun j t ht => by
        rw [Tryd.params3] at ht
        have hm : t ∈ [45, 45] := by simpa using Array.mem_of_getElem? ht
        have hall : ([45, 45].all fun u => !Tryd.prog.wantsStandIn u) = true := by kernel_rfl
        exact (show Tryd.prog.wantsStandIn t = false by simpa using List.all_eq_true.1 hall t hm)⟩)
    (by kernel_rfl)
#print axioms proved
end Go.Proofs.YtbllpajibhiobaaDoor.entrySame
