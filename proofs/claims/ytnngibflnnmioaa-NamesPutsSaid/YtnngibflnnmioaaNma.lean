/-
  Names: a list of indexes with what stands beside them; whether indexes rise; whether one is wrong.
-/
import Derived.Test.YtnngibflnnmioaaRow
import Derived.Test.YtnngibflnnmioaaIns
import Derived.Test.YtnngibflnnmioaaUtfN
namespace Go.Proofs.Ytnngibflnnmioaa
open Go.RowKit Go.Proofs.Leb Go.Proofs.Own
set_option maxRecDepth 100000
set_option maxHeartbeats 4000000

/-- an index, and what stands beside it in one cell -/
abbrev FRep (β : Type) := World → (Nat → Prop) → Value → β → Prop
structure FRep.Ok {β : Type} (F : FRep β) : Prop where
  upd : ∀ {S : Nat → Prop} {w w' : World} {B : Nat → Prop} {u : Value} {y : β}, F w B u y → Upd S w w' → (∀ k, B k → ¬ S k) → F w' B u y
  mono : ∀ {w : World} {B B' : Nat → Prop} {u : Value} {y : β}, F w B u y → (∀ k, B k → B' k) → F w B' u y
theorem FRep.Ok.new {β : Type} {F : FRep β} (h : F.Ok) {w w' : World} {B : Nat → Prop} {u : Value} {y : β} (hf : F w B u y) (hn : New w w') : F w' B u y := h.upd hf hn (fun _ _ h => h)
def E2 {β : Type} (F : FRep β) : ERep (Nat × β) := fun w B x row => ∃ u, row = [.int .u32 (x.1 : Nat), u] ∧ F w B u x.2
theorem E2.ok {β : Type} {F : FRep β} (h : F.Ok) : (E2 F).Ok :=
  ⟨fun ⟨u, e, hf⟩ hu hS => ⟨u, e, h.upd hf hu hS⟩, fun ⟨u, e, hf⟩ hB => ⟨u, e, h.mono hf hB⟩⟩
def FN : FRep ByteArray := fun _ _ u s => u = .string s
theorem FN.ok : FRep.Ok FN := ⟨fun h _ _ => h, fun h _ => h⟩
def FL : FRep (List (Nat × ByteArray)) := fun w B u l => RdE 2 (E2 FN) w B u l
theorem FL.ok : FRep.Ok FL := ⟨fun h hu hS => RdE.upd (E2.ok FN.ok) h hu hS, fun h hB => RdE.mono (E2.ok FN.ok) h hB⟩
theorem e2_at {β : Type} {F : FRep β} {w : World} {B : Nat → Prop} {v : Value} {xs : List (Nat × β)} (h : RdE 2 (E2 F) w B v xs) : ∃ a cap, v = .slice a xs.length cap ∧ ∀ i (hi : i < xs.length), ∃ b o u, a = some ⟨b, o, none⟩ ∧
    w.cell? ⟨b, o + i * 2, none⟩ = some (.int .u32 (xs[i].1 : Nat)) ∧ w.cell? ⟨b, o + i * 2 + 1, none⟩ = some u ∧ F w B u xs[i].2 := by
  obtain ⟨a, cap, rfl, hat⟩ := h.at
  refine ⟨a, cap, rfl, fun i hi => ?_⟩
  obtain ⟨b, o, row, rfl, hl, ⟨u, rfl, hf⟩, hc⟩ := hat i hi
  exact ⟨b, o, u, rfl, by simpa using hc 0 _ rfl, hc 1 _ rfl, hf⟩

/-- is it a text? -/
def textV (s : ByteArray) : Bool := (Utf.need s.data.toList).2 && decide ((Utf.need s.data.toList).1 = 0)
def Rises (xs : List Nat) : Prop := ∀ k (h : k + 1 < xs.length), xs[k] < xs[k + 1]
def NRight (xs : List (Nat × ByteArray)) : Prop := Rises (xs.map (·.1)) ∧ ∀ x ∈ xs, textV x.2 = true

theorem nm_wrong (n : Nat) (s : ByteArray) (w : World) (hs : s.size ≤ 1000000) : Calls Try.prog 78 #[.agg #[.int .u32 n, .string s]] w (SameP (textV s = false) w) := by
  obtain ⟨t, ht⟩ : ∃ t, textV s = t := ⟨_, rfl⟩
  have HV := hid (fun w => Valid_any s w (by omega))
  rw [ht]
  have HT : Hid (((Utf.need s.data.toList).2 && decide ((Utf.need s.data.toList).1 = 0)) = t) := ht
  clear ht
  have HN := hid (fun o => (Upd.refl (fun _ => False) w).alloc o)
  go_enter Try.func78, Try.ntmps78
  go_wp2_with fail
  refine (HV.out _).mono ?_
  rintro e w' ⟨rfl, rfl⟩
  rw [HT.out]
  go_wp2_with fail
  go_ret
  refine ⟨!t, rfl, ?_, HN.out _⟩
  cases t <;> simp
theorem idx_of80 (n : Nat) (u : Value) (w : World) : Calls Try.prog 80 #[.agg #[.int .u32 n, u]] w (fun e w' => e = .returned (.int .u32 n) ∧ New w w') := by
  have HN := hid (fun o => (Upd.refl (fun _ => False) w).alloc o)
  go_enter Try.func80, Try.ntmps80
  go_wp2_with fail
  go_ret
  exact ⟨rfl, HN.out _⟩
theorem idx_of57 (n : Nat) (u : Value) (w : World) : Calls Try.prog 57 #[.agg #[.int .u32 n, u]] w (fun e w' => e = .returned (.int .u32 n) ∧ New w w') := by
  have HN := hid (fun o => (Upd.refl (fun _ => False) w).alloc o)
  go_enter Try.func57, Try.ntmps57
  go_wp2_with fail
  go_ret
  exact ⟨rfl, HN.out _⟩
theorem idxf94 {β : Type} {F : FRep β} (hF : F.Ok) {B : Nat → Prop} (q : β → Prop) (v : Value) (xs : List (Nat × β)) (w : World) (hr : RdE 2 (E2 F) w B v xs) (hl : xs.length ≤ 1000000)
    (hq : ∀ (x : Nat × β) u w', x ∈ xs → F w' B u x.2 → Calls Try.prog 78 #[.agg #[.int .u32 (x.1 : Nat), u]] w' (SameP (q x.2) w')) :
    Calls Try.prog 94 #[v, .func (.func 78) #[] #[]] w fun e w' => ∃ n : Int, e = .returned (.int .i64 n) ∧ (0 ≤ n ↔ ∃ x ∈ xs, q x.2) ∧ New w w' := by
  obtain ⟨a, cap, rfl, hat⟩ := e2_at hr
  have HQ := hid hq
  have HAT := hid hat
  clear hr hq hat
  go_enter Try.func94, Try.ntmps94
  go_wp2_with fail
  go_loopw [8] (fun c wr => ∃ i : Nat, c = .int .i64 i ∧ i ≤ xs.length ∧ (∀ j (h : j < xs.length), j < i → ¬ q xs[j].2) ∧ New w wr) (fun c _ => xs.length - (intOf c).toNat)
  case atStart => exact ⟨0, rfl, by omega, fun j _ h => absurd h (Nat.not_lt_zero _), Upd.refl _ _⟩
  case round =>
    obtain ⟨i, rfl, hi1, hno, hn⟩ := hrel
    have HN := hid hn
    have HNO := hid hno
    clear hn hno
    by_cases hi : i < xs.length
    · obtain ⟨b, o, u, rfl, hc0, hc1, hf⟩ := HAT.out i hi
      have k0 := HN.out.cell hc0 (fun h => h)
      have k1 := HN.out.cell hc1 (fun h => h)
      have HC := hid (HQ.out xs[i] u wr (List.getElem_mem _) (hF.new hf HN.out))
      have HS : Hid (∀ j (h : j < xs.length), j < i + 1 → ¬ q xs[i].2 → ¬ q xs[j].2) := by
        show ∀ j (h : j < xs.length), j < i + 1 → ¬ q xs[i].2 → ¬ q xs[j].2
        intro j h h1 h2
        rcases Nat.lt_or_ge j i with h3 | h3
        · exact HNO.out j h h3
        · obtain rfl : j = i := by omega
          exact h2
      have HM : Hid (xs[i] ∈ xs) := List.getElem_mem _
      generalize xs[i] = x at *
      obtain ⟨n, y⟩ := x
      simp only at k0 HC HS
      clear hc0 hc1 hf
      go_wp2_with fail
      refine HC.out.mono ?_
      rintro e w2 ⟨bb, rfl, hb, hn2⟩
      have HN2 := hid (New.trans HN.out hn2)
      clear k0 k1 hn2
      cases bb with
      | true =>
        have HB := hid (hb.1 rfl)
        clear hb
        go_wp2_with fail
        go_ret
        exact ⟨_, rfl, iff_of_true (by omega) ⟨_, HM.out, HB.out⟩, HN2.out⟩
      | false =>
        have HB := hid (fun h => Bool.noConfusion (hb.2 h) : ¬ q y)
        clear hb
        go_wp2_with fail
        go_roundw
        case rel => exact ⟨i + 1, by go_num, by omega, fun j h h1 => HS.out j h h1 HB.out, HN2.out⟩
        case measure => simp [intOf]; omega
    · obtain rfl : i = xs.length := by omega
      go_wp2_with fail
      go_ret
      refine ⟨_, rfl, iff_of_false (by decide) ?_, HN.out⟩
      rintro ⟨x, hx, hq⟩
      obtain ⟨j, hj, rfl⟩ := List.mem_iff_getElem.1 hx
      exact HNO.out j hj hj hq
theorem conf81 {β : Type} {F : FRep β} (hF : F.Ok) {B : Nat → Prop} (q : β → Prop) (v : Value) (xs : List (Nat × β)) (w : World) (hr : RdE 2 (E2 F) w B v xs) (hl : xs.length ≤ 1000000)
    (hq : ∀ (x : Nat × β) u w', x ∈ xs → F w' B u x.2 → Calls Try.prog 78 #[.agg #[.int .u32 (x.1 : Nat), u]] w' (SameP (q x.2) w')) :
    Calls Try.prog 81 #[v, .func (.func 78) #[] #[]] w (SameP (∃ x ∈ xs, q x.2) w) := by
  have HI := hid (idxf94 hF q v xs w hr hl hq)
  clear hr hq
  go_enter Try.func81, Try.ntmps81
  go_wp2_with fail
  refine HI.out.mono ?_
  rintro e w' ⟨n, rfl, hn, hw⟩
  have HN := hid hn
  have HW := hid hw
  clear hn hw
  go_wp2_with fail
  go_ret
  exact ⟨_, rfl, by rw [← HN.out, decide_eq_true_iff], HW.out⟩
theorem idxf83 {β : Type} {F : FRep β} (hF : F.Ok) {B : Nat → Prop} (q : β → Prop) (v : Value) (xs : List (Nat × β)) (w : World) (hr : RdE 2 (E2 F) w B v xs) (hl : xs.length ≤ 1000000)
    (hq : ∀ (x : Nat × β) u w', x ∈ xs → F w' B u x.2 → Calls Try.prog 53 #[.agg #[.int .u32 (x.1 : Nat), u]] w' (SameP (q x.2) w')) :
    Calls Try.prog 83 #[v, .func (.func 53) #[] #[]] w fun e w' => ∃ n : Int, e = .returned (.int .i64 n) ∧ (0 ≤ n ↔ ∃ x ∈ xs, q x.2) ∧ New w w' := by
  obtain ⟨a, cap, rfl, hat⟩ := e2_at hr
  have HQ := hid hq
  have HAT := hid hat
  clear hr hq hat
  go_enter Try.func83, Try.ntmps83
  go_wp2_with fail
  go_loopw [8] (fun c wr => ∃ i : Nat, c = .int .i64 i ∧ i ≤ xs.length ∧ (∀ j (h : j < xs.length), j < i → ¬ q xs[j].2) ∧ New w wr) (fun c _ => xs.length - (intOf c).toNat)
  case atStart => exact ⟨0, rfl, by omega, fun j _ h => absurd h (Nat.not_lt_zero _), Upd.refl _ _⟩
  case round =>
    obtain ⟨i, rfl, hi1, hno, hn⟩ := hrel
    have HN := hid hn
    have HNO := hid hno
    clear hn hno
    by_cases hi : i < xs.length
    · obtain ⟨b, o, u, rfl, hc0, hc1, hf⟩ := HAT.out i hi
      have k0 := HN.out.cell hc0 (fun h => h)
      have k1 := HN.out.cell hc1 (fun h => h)
      have HC := hid (HQ.out xs[i] u wr (List.getElem_mem _) (hF.new hf HN.out))
      have HS : Hid (∀ j (h : j < xs.length), j < i + 1 → ¬ q xs[i].2 → ¬ q xs[j].2) := by
        show ∀ j (h : j < xs.length), j < i + 1 → ¬ q xs[i].2 → ¬ q xs[j].2
        intro j h h1 h2
        rcases Nat.lt_or_ge j i with h3 | h3
        · exact HNO.out j h h3
        · obtain rfl : j = i := by omega
          exact h2
      have HM : Hid (xs[i] ∈ xs) := List.getElem_mem _
      generalize xs[i] = x at *
      obtain ⟨n, y⟩ := x
      simp only at k0 HC HS
      clear hc0 hc1 hf
      go_wp2_with fail
      refine HC.out.mono ?_
      rintro e w2 ⟨bb, rfl, hb, hn2⟩
      have HN2 := hid (New.trans HN.out hn2)
      clear k0 k1 hn2
      cases bb with
      | true =>
        have HB := hid (hb.1 rfl)
        clear hb
        go_wp2_with fail
        go_ret
        exact ⟨_, rfl, iff_of_true (by omega) ⟨_, HM.out, HB.out⟩, HN2.out⟩
      | false =>
        have HB := hid (fun h => Bool.noConfusion (hb.2 h) : ¬ q y)
        clear hb
        go_wp2_with fail
        go_roundw
        case rel => exact ⟨i + 1, by go_num, by omega, fun j h h1 => HS.out j h h1 HB.out, HN2.out⟩
        case measure => simp [intOf]; omega
    · obtain rfl : i = xs.length := by omega
      go_wp2_with fail
      go_ret
      refine ⟨_, rfl, iff_of_false (by decide) ?_, HN.out⟩
      rintro ⟨x, hx, hq⟩
      obtain ⟨j, hj, rfl⟩ := List.mem_iff_getElem.1 hx
      exact HNO.out j hj hj hq
theorem conf58 {β : Type} {F : FRep β} (hF : F.Ok) {B : Nat → Prop} (q : β → Prop) (v : Value) (xs : List (Nat × β)) (w : World) (hr : RdE 2 (E2 F) w B v xs) (hl : xs.length ≤ 1000000)
    (hq : ∀ (x : Nat × β) u w', x ∈ xs → F w' B u x.2 → Calls Try.prog 53 #[.agg #[.int .u32 (x.1 : Nat), u]] w' (SameP (q x.2) w')) :
    Calls Try.prog 58 #[v, .func (.func 53) #[] #[]] w (SameP (∃ x ∈ xs, q x.2) w) := by
  have HI := hid (idxf83 hF q v xs w hr hl hq)
  clear hr hq
  go_enter Try.func58, Try.ntmps58
  go_wp2_with fail
  refine HI.out.mono ?_
  rintro e w' ⟨n, rfl, hn, hw⟩
  have HN := hid hn
  have HW := hid hw
  clear hn hw
  go_wp2_with fail
  go_ret
  exact ⟨_, rfl, by rw [← HN.out, decide_eq_true_iff], HW.out⟩
theorem rise79 {β : Type} {F : FRep β} {B : Nat → Prop} (v : Value) (xs : List (Nat × β)) (w : World) (hr : RdE 2 (E2 F) w B v xs) (hl : xs.length ≤ 1000000) :
    Calls Try.prog 79 #[v, .func (.func 80) #[] #[]] w (SameP (Rises (xs.map (·.1))) w) := by
  obtain ⟨a, cap, rfl, hat⟩ := e2_at hr
  have HAT := hid hat
  have HI := hid (fun n u w => idx_of80 n u w)
  clear hr hat
  go_enter Try.func79, Try.ntmps79
  go_wp2_with fail
  go_loopw [5] (fun c wr => ∃ i : Nat, c = .int .i64 i ∧ 1 ≤ i ∧ (∀ k (h : k + 1 < xs.length), k + 1 < i → (xs[k]).1 < (xs[k + 1]).1) ∧ New w wr) (fun c _ => xs.length - (intOf c).toNat)
  case atStart => exact ⟨1, rfl, by omega, fun k _ h => absurd h (by omega), Upd.refl _ _⟩
  case round =>
    obtain ⟨i, rfl, hi1, hno, hn⟩ := hrel
    have HN := hid hn
    have HNO := hid hno
    clear hn hno
    by_cases hi : i < xs.length
    · obtain ⟨p, hp⟩ : ∃ p, p + 1 = i := ⟨i - 1, by omega⟩
      have hpl : p < xs.length := by omega
      obtain ⟨b, o, u, rfl, hc0, hc1, _⟩ := HAT.out i hi
      obtain ⟨b', o', u', e, hd0, hd1, _⟩ := HAT.out p hpl
      cases e
      have HS : Hid ((xs[p]).1 < (xs[i]).1 → ∀ k (h : k + 1 < xs.length), k + 1 < i + 1 → (xs[k]).1 < (xs[k + 1]).1) := by
        show (xs[p]).1 < (xs[i]).1 → ∀ k (h : k + 1 < xs.length), k + 1 < i + 1 → (xs[k]).1 < (xs[k + 1]).1
        subst hp
        intro h0 k h h1
        rcases Nat.lt_or_ge k p with h3 | h3
        · exact HNO.out k h (by omega)
        · obtain rfl : k = p := by omega
          exact h0
      have HR : Hid (Rises (xs.map (·.1)) → (xs[p]).1 < (xs[i]).1) := by
        show Rises (xs.map (·.1)) → (xs[p]).1 < (xs[i]).1
        subst hp
        intro h
        have := h p (by simpa using hi)
        simpa using this
      have q0 := hid hc0
      have q1 := hid hc1
      have r0 := hid hd0
      have r1 := hid hd1
      have HI1 := hid hi1
      have e1 : IntKind.i64.wrap ((i : Int) - 1) = (p : Int) := by rw [IntWalk.i64_in _ (by omega)]; omega
      clear hc0 hc1 hd0 hd1 hp hi1
      generalize (xs[i]).1 = m at *
      generalize (xs[p]).1 = n at *
      have hn : New w wr.drew := HN.out.drew
      by_cases hlt : n < m
      · have hle : decide ((m : Int) ≤ (n : Int)) = false := by simpa using hlt
        have hle2 : decide (m ≤ n) = false := by simpa using hlt
        have hle3 : (m ≤ n) = False := by simpa using hlt
        have HLT := hid hlt
        clear hlt
        go_wp2_with fail
        refine wp_region_noPanic ?_
        refine wp_region_held_drew (S := (New w)) (by kernel_rfl) (by first | exact hn | exact (Upd.refl _ _).drew | exact Upd.drew (by assumption)) (fun hn => ?_)
        generalize wr.drew = wd at *
        refine wpAnyH_take (i := 0) (oi := { dst := some 12, op := Op.move (Operand.tmp 1), type := 121, pos := "names.go:179", after := #[], guard := none }) (v := ?v28x1) rfl (by kernel_rfl) (by kernel_rfl) (by kernel_rfl) (fun _ _ _ h => h) (Or.inl ⟨by rfl, ?y28x1⟩) hn ?r28x1
        case y28x1 => (intro wS hS; (try go_simp); (try with_reducible rfl))
        try simp only [Act.put, List.setIfInBounds_toArray, List.set_cons_zero, List.set_cons_succ]
        refine wpAnyH_take (i := 1) (oi := { dst := some 13, op := Op.move (Operand.tmp 0), type := 47, pos := "names.go:179", after := #[], guard := none }) (v := ?v28x2) rfl (by kernel_rfl) (by kernel_rfl) (by kernel_rfl) (fun _ _ _ h => h) (Or.inl ⟨by rfl, ?y28x2⟩) hn ?r28x2
        case y28x2 => (intro wS hS; (try go_simp); (try with_reducible rfl))
        try simp only [Act.put, List.setIfInBounds_toArray, List.set_cons_zero, List.set_cons_succ]
        refine wpAnyH_take (i := 2) (oi := { dst := some 14, op := Op.move (Operand.tmp 5), type := 3, pos := "names.go:179", after := #[], guard := none }) (v := ?v28x3) rfl (by kernel_rfl) (by kernel_rfl) (by kernel_rfl) (fun _ _ _ h => h) (Or.inl ⟨by rfl, ?y28x3⟩) hn ?r28x3
        case y28x3 => (intro wS hS; (try go_simp); (try with_reducible rfl))
        try simp only [Act.put, List.setIfInBounds_toArray, List.set_cons_zero, List.set_cons_succ]
        refine wpAnyH_take (i := 3) (oi := { dst := some 15, op := Op.indexAddr 47 (Operand.tmp 13) (Operand.tmp 14), type := 0, pos := "names.go:179", after := #[{ on := 1, ground := Ground.data }, { on := 2, ground := Ground.data }], guard := none }) (v := ?v28x4) rfl (by kernel_rfl) (by kernel_rfl) (by kernel_rfl) (fun _ _ _ h => h) (Or.inl ⟨by rfl, ?y28x4⟩) hn ?r28x4
        case y28x4 => (intro wS hS; (try go_simp); (try with_reducible rfl))
        try simp only [Act.put, List.setIfInBounds_toArray, List.set_cons_zero, List.set_cons_succ]
        refine wpAnyH_take (i := 4) (oi := { dst := some 16, op := Op.load 102 (Operand.tmp 15), type := 102, pos := "names.go:179", after := #[{ on := 3, ground := Ground.data }], guard := none }) (v := ?v28x5) rfl (by kernel_rfl) (by kernel_rfl) (by kernel_rfl) (fun _ _ _ h => h) (Or.inl ⟨by rfl, ?y28x5⟩) hn ?r28x5
        case y28x5 => (intro wS hS; have c0 := hS.cell q0.out (fun h => h); have c1 := hS.cell q1.out (fun h => h); (try go_simp); (try with_reducible rfl))
        try simp only [Act.put, List.setIfInBounds_toArray, List.set_cons_zero, List.set_cons_succ]
        refine wpAnyH_take (i := 6) (oi := { dst := some 18, op := Op.move (Operand.tmp 1), type := 121, pos := "names.go:179", after := #[], guard := none }) (v := ?v28x6) rfl (by kernel_rfl) (by kernel_rfl) (by kernel_rfl) (fun _ _ _ h => h) (Or.inl ⟨by rfl, ?y28x6⟩) hn ?r28x6
        case y28x6 => (intro wS hS; (try go_simp); (try with_reducible rfl))
        try simp only [Act.put, List.setIfInBounds_toArray, List.set_cons_zero, List.set_cons_succ]
        refine wpAnyH_take (i := 7) (oi := { dst := some 19, op := Op.move (Operand.tmp 0), type := 47, pos := "names.go:179", after := #[], guard := none }) (v := ?v28x7) rfl (by kernel_rfl) (by kernel_rfl) (by kernel_rfl) (fun _ _ _ h => h) (Or.inl ⟨by rfl, ?y28x7⟩) hn ?r28x7
        case y28x7 => (intro wS hS; (try go_simp); (try with_reducible rfl))
        try simp only [Act.put, List.setIfInBounds_toArray, List.set_cons_zero, List.set_cons_succ]
        refine wpAnyH_take (i := 8) (oi := { dst := some 20, op := Op.move (Operand.tmp 5), type := 3, pos := "names.go:179", after := #[], guard := none }) (v := ?v28x8) rfl (by kernel_rfl) (by kernel_rfl) (by kernel_rfl) (fun _ _ _ h => h) (Or.inl ⟨by rfl, ?y28x8⟩) hn ?r28x8
        case y28x8 => (intro wS hS; (try go_simp); (try with_reducible rfl))
        try simp only [Act.put, List.setIfInBounds_toArray, List.set_cons_zero, List.set_cons_succ]
        refine wpAnyH_take (i := 9) (oi := { dst := some 21, op := Op.binOp BinOp.sub 3 (Operand.tmp 20) (Operand.const (Value.int IntKind.i64 1)) 3, type := 3, pos := "names.go:179", after := #[{ on := 8, ground := Ground.data }], guard := none }) (v := ?v28x9) rfl (by kernel_rfl) (by kernel_rfl) (by kernel_rfl) (fun _ _ _ h => h) (Or.inl ⟨by rfl, ?y28x9⟩) hn ?r28x9
        case y28x9 => (intro wS hS; (try go_simp); (try with_reducible rfl))
        try simp only [Act.put, List.setIfInBounds_toArray, List.set_cons_zero, List.set_cons_succ]
        refine wpAnyH_take (i := 10) (oi := { dst := some 22, op := Op.indexAddr 47 (Operand.tmp 19) (Operand.tmp 21), type := 0, pos := "names.go:179", after := #[{ on := 7, ground := Ground.data }, { on := 9, ground := Ground.data }], guard := none }) (v := ?v28x10) rfl (by kernel_rfl) (by kernel_rfl) (by kernel_rfl) (fun _ _ _ h => h) (Or.inl ⟨by rfl, ?y28x10⟩) hn ?r28x10
        case y28x10 => (intro wS hS; (try go_simp); (try with_reducible rfl))
        try simp only [Act.put, List.setIfInBounds_toArray, List.set_cons_zero, List.set_cons_succ]
        refine wpAnyH_take (i := 11) (oi := { dst := some 23, op := Op.load 102 (Operand.tmp 22), type := 102, pos := "names.go:179", after := #[{ on := 10, ground := Ground.data }], guard := none }) (v := ?v28x11) rfl (by kernel_rfl) (by kernel_rfl) (by kernel_rfl) (fun _ _ _ h => h) (Or.inl ⟨by rfl, ?y28x11⟩) hn ?r28x11
        case y28x11 => (intro wS hS; have c0 := hS.cell r0.out (fun h => h); have c1 := hS.cell r1.out (fun h => h); (try go_simp); (try with_reducible rfl))
        try simp only [Act.put, List.setIfInBounds_toArray, List.set_cons_zero, List.set_cons_succ]
        refine wpAnyH_ready (rs := [5]) (by kernel_rfl) (by simp) ?_
        refine AllReadyH.cons (o := { dst := some 17, op := Op.call { callee := Callee.value (Operand.tmp 12), args := #[Operand.tmp 16], argTypes := #[102] }, type := 22, pos := "names.go:179", after := #[{ on := 0, ground := Ground.data }, { on := 4, ground := Ground.data }], guard := none }) rfl (fun K hK => ?_) AllReadyH.nil
        go_simp
        refine (HI.out _ _ _).mono ?_
        rintro e wq ⟨rfl, hnq⟩
        go_wp2_with fail
        have hn := New.trans hn hnq
        refine hK.out _ _ (by first | exact hn | exact Upd.alloc hn _) (fun hn => ?_)
        clear hK K
        try simp only [Act.put, List.setIfInBounds_toArray, List.set_cons_zero, List.set_cons_succ]
        refine wpAnyH_ready (rs := [12]) (by kernel_rfl) (by simp) ?_
        refine AllReadyH.cons (o := { dst := some 24, op := Op.call { callee := Callee.value (Operand.tmp 18), args := #[Operand.tmp 23], argTypes := #[102] }, type := 22, pos := "names.go:179", after := #[{ on := 6, ground := Ground.data }, { on := 11, ground := Ground.data }, { on := 5, ground := Ground.chain }], guard := none }) rfl (fun K hK => ?_) AllReadyH.nil
        go_simp
        refine (HI.out _ _ _).mono ?_
        rintro e wt ⟨rfl, hnq⟩
        go_wp2_with fail
        have hn := New.trans hn hnq
        refine hK.out _ _ (by first | exact hn | exact Upd.alloc hn _) (fun hn => ?_)
        clear hK K
        try simp only [Act.put, List.setIfInBounds_toArray, List.set_cons_zero, List.set_cons_succ]
        refine wpAnyH_take (i := 13) (oi := { dst := some 25, op := Op.binOp BinOp.leq 22 (Operand.tmp 17) (Operand.tmp 24) 22, type := 4, pos := "names.go:179", after := #[{ on := 5, ground := Ground.data }, { on := 12, ground := Ground.data }], guard := none }) (v := ?v28x12) rfl (by kernel_rfl) (by kernel_rfl) (by kernel_rfl) (fun _ _ _ h => h) (Or.inl ⟨by rfl, ?y28x12⟩) hn ?r28x12
        case y28x12 => (intro wS hS; (try go_simp); (try with_reducible rfl))
        try simp only [Act.put, List.setIfInBounds_toArray, List.set_cons_zero, List.set_cons_succ]
        refine wpAnyH_done (by kernel_rfl) ?_ _
        refine NoPanic.normal ?_
        clear e1
        have HH := hid hn
        clear hn
        go_wp2_with fail
        go_roundw
        case rel => exact ⟨i + 1, by go_num, by omega, HS.out HLT.out, HH.out⟩
        case measure => (simp [intOf]; omega)
      · have hle : decide ((m : Int) ≤ (n : Int)) = true := by simpa using hlt
        have hle2 : decide (m ≤ n) = true := by simpa using hlt
        have hle3 : (m ≤ n) = True := by simpa using hlt
        have HLT := hid hlt
        clear hlt
        go_wp2_with fail
        refine wp_region_noPanic ?_
        refine wp_region_held_drew (S := (New w)) (by kernel_rfl) (by first | exact hn | exact (Upd.refl _ _).drew | exact Upd.drew (by assumption)) (fun hn => ?_)
        generalize wr.drew = wd at *
        refine wpAnyH_take (i := 0) (oi := { dst := some 12, op := Op.move (Operand.tmp 1), type := 121, pos := "names.go:179", after := #[], guard := none }) (v := ?v29x1) rfl (by kernel_rfl) (by kernel_rfl) (by kernel_rfl) (fun _ _ _ h => h) (Or.inl ⟨by rfl, ?y29x1⟩) hn ?r29x1
        case y29x1 => (intro wS hS; (try go_simp); (try with_reducible rfl))
        try simp only [Act.put, List.setIfInBounds_toArray, List.set_cons_zero, List.set_cons_succ]
        refine wpAnyH_take (i := 1) (oi := { dst := some 13, op := Op.move (Operand.tmp 0), type := 47, pos := "names.go:179", after := #[], guard := none }) (v := ?v29x2) rfl (by kernel_rfl) (by kernel_rfl) (by kernel_rfl) (fun _ _ _ h => h) (Or.inl ⟨by rfl, ?y29x2⟩) hn ?r29x2
        case y29x2 => (intro wS hS; (try go_simp); (try with_reducible rfl))
        try simp only [Act.put, List.setIfInBounds_toArray, List.set_cons_zero, List.set_cons_succ]
        refine wpAnyH_take (i := 2) (oi := { dst := some 14, op := Op.move (Operand.tmp 5), type := 3, pos := "names.go:179", after := #[], guard := none }) (v := ?v29x3) rfl (by kernel_rfl) (by kernel_rfl) (by kernel_rfl) (fun _ _ _ h => h) (Or.inl ⟨by rfl, ?y29x3⟩) hn ?r29x3
        case y29x3 => (intro wS hS; (try go_simp); (try with_reducible rfl))
        try simp only [Act.put, List.setIfInBounds_toArray, List.set_cons_zero, List.set_cons_succ]
        refine wpAnyH_take (i := 3) (oi := { dst := some 15, op := Op.indexAddr 47 (Operand.tmp 13) (Operand.tmp 14), type := 0, pos := "names.go:179", after := #[{ on := 1, ground := Ground.data }, { on := 2, ground := Ground.data }], guard := none }) (v := ?v29x4) rfl (by kernel_rfl) (by kernel_rfl) (by kernel_rfl) (fun _ _ _ h => h) (Or.inl ⟨by rfl, ?y29x4⟩) hn ?r29x4
        case y29x4 => (intro wS hS; (try go_simp); (try with_reducible rfl))
        try simp only [Act.put, List.setIfInBounds_toArray, List.set_cons_zero, List.set_cons_succ]
        refine wpAnyH_take (i := 4) (oi := { dst := some 16, op := Op.load 102 (Operand.tmp 15), type := 102, pos := "names.go:179", after := #[{ on := 3, ground := Ground.data }], guard := none }) (v := ?v29x5) rfl (by kernel_rfl) (by kernel_rfl) (by kernel_rfl) (fun _ _ _ h => h) (Or.inl ⟨by rfl, ?y29x5⟩) hn ?r29x5
        case y29x5 => (intro wS hS; have c0 := hS.cell q0.out (fun h => h); have c1 := hS.cell q1.out (fun h => h); (try go_simp); (try with_reducible rfl))
        try simp only [Act.put, List.setIfInBounds_toArray, List.set_cons_zero, List.set_cons_succ]
        refine wpAnyH_take (i := 6) (oi := { dst := some 18, op := Op.move (Operand.tmp 1), type := 121, pos := "names.go:179", after := #[], guard := none }) (v := ?v29x6) rfl (by kernel_rfl) (by kernel_rfl) (by kernel_rfl) (fun _ _ _ h => h) (Or.inl ⟨by rfl, ?y29x6⟩) hn ?r29x6
        case y29x6 => (intro wS hS; (try go_simp); (try with_reducible rfl))
        try simp only [Act.put, List.setIfInBounds_toArray, List.set_cons_zero, List.set_cons_succ]
        refine wpAnyH_take (i := 7) (oi := { dst := some 19, op := Op.move (Operand.tmp 0), type := 47, pos := "names.go:179", after := #[], guard := none }) (v := ?v29x7) rfl (by kernel_rfl) (by kernel_rfl) (by kernel_rfl) (fun _ _ _ h => h) (Or.inl ⟨by rfl, ?y29x7⟩) hn ?r29x7
        case y29x7 => (intro wS hS; (try go_simp); (try with_reducible rfl))
        try simp only [Act.put, List.setIfInBounds_toArray, List.set_cons_zero, List.set_cons_succ]
        refine wpAnyH_take (i := 8) (oi := { dst := some 20, op := Op.move (Operand.tmp 5), type := 3, pos := "names.go:179", after := #[], guard := none }) (v := ?v29x8) rfl (by kernel_rfl) (by kernel_rfl) (by kernel_rfl) (fun _ _ _ h => h) (Or.inl ⟨by rfl, ?y29x8⟩) hn ?r29x8
        case y29x8 => (intro wS hS; (try go_simp); (try with_reducible rfl))
        try simp only [Act.put, List.setIfInBounds_toArray, List.set_cons_zero, List.set_cons_succ]
        refine wpAnyH_take (i := 9) (oi := { dst := some 21, op := Op.binOp BinOp.sub 3 (Operand.tmp 20) (Operand.const (Value.int IntKind.i64 1)) 3, type := 3, pos := "names.go:179", after := #[{ on := 8, ground := Ground.data }], guard := none }) (v := ?v29x9) rfl (by kernel_rfl) (by kernel_rfl) (by kernel_rfl) (fun _ _ _ h => h) (Or.inl ⟨by rfl, ?y29x9⟩) hn ?r29x9
        case y29x9 => (intro wS hS; (try go_simp); (try with_reducible rfl))
        try simp only [Act.put, List.setIfInBounds_toArray, List.set_cons_zero, List.set_cons_succ]
        refine wpAnyH_take (i := 10) (oi := { dst := some 22, op := Op.indexAddr 47 (Operand.tmp 19) (Operand.tmp 21), type := 0, pos := "names.go:179", after := #[{ on := 7, ground := Ground.data }, { on := 9, ground := Ground.data }], guard := none }) (v := ?v29x10) rfl (by kernel_rfl) (by kernel_rfl) (by kernel_rfl) (fun _ _ _ h => h) (Or.inl ⟨by rfl, ?y29x10⟩) hn ?r29x10
        case y29x10 => (intro wS hS; (try go_simp); (try with_reducible rfl))
        try simp only [Act.put, List.setIfInBounds_toArray, List.set_cons_zero, List.set_cons_succ]
        refine wpAnyH_take (i := 11) (oi := { dst := some 23, op := Op.load 102 (Operand.tmp 22), type := 102, pos := "names.go:179", after := #[{ on := 10, ground := Ground.data }], guard := none }) (v := ?v29x11) rfl (by kernel_rfl) (by kernel_rfl) (by kernel_rfl) (fun _ _ _ h => h) (Or.inl ⟨by rfl, ?y29x11⟩) hn ?r29x11
        case y29x11 => (intro wS hS; have c0 := hS.cell r0.out (fun h => h); have c1 := hS.cell r1.out (fun h => h); (try go_simp); (try with_reducible rfl))
        try simp only [Act.put, List.setIfInBounds_toArray, List.set_cons_zero, List.set_cons_succ]
        refine wpAnyH_ready (rs := [5]) (by kernel_rfl) (by simp) ?_
        refine AllReadyH.cons (o := { dst := some 17, op := Op.call { callee := Callee.value (Operand.tmp 12), args := #[Operand.tmp 16], argTypes := #[102] }, type := 22, pos := "names.go:179", after := #[{ on := 0, ground := Ground.data }, { on := 4, ground := Ground.data }], guard := none }) rfl (fun K hK => ?_) AllReadyH.nil
        go_simp
        refine (HI.out _ _ _).mono ?_
        rintro e wq ⟨rfl, hnq⟩
        go_wp2_with fail
        have hn := New.trans hn hnq
        refine hK.out _ _ (by first | exact hn | exact Upd.alloc hn _) (fun hn => ?_)
        clear hK K
        try simp only [Act.put, List.setIfInBounds_toArray, List.set_cons_zero, List.set_cons_succ]
        refine wpAnyH_ready (rs := [12]) (by kernel_rfl) (by simp) ?_
        refine AllReadyH.cons (o := { dst := some 24, op := Op.call { callee := Callee.value (Operand.tmp 18), args := #[Operand.tmp 23], argTypes := #[102] }, type := 22, pos := "names.go:179", after := #[{ on := 6, ground := Ground.data }, { on := 11, ground := Ground.data }, { on := 5, ground := Ground.chain }], guard := none }) rfl (fun K hK => ?_) AllReadyH.nil
        go_simp
        refine (HI.out _ _ _).mono ?_
        rintro e wt ⟨rfl, hnq⟩
        go_wp2_with fail
        have hn := New.trans hn hnq
        refine hK.out _ _ (by first | exact hn | exact Upd.alloc hn _) (fun hn => ?_)
        clear hK K
        try simp only [Act.put, List.setIfInBounds_toArray, List.set_cons_zero, List.set_cons_succ]
        refine wpAnyH_take (i := 13) (oi := { dst := some 25, op := Op.binOp BinOp.leq 22 (Operand.tmp 17) (Operand.tmp 24) 22, type := 4, pos := "names.go:179", after := #[{ on := 5, ground := Ground.data }, { on := 12, ground := Ground.data }], guard := none }) (v := ?v29x12) rfl (by kernel_rfl) (by kernel_rfl) (by kernel_rfl) (fun _ _ _ h => h) (Or.inl ⟨by rfl, ?y29x12⟩) hn ?r29x12
        case y29x12 => (intro wS hS; (try go_simp); (try with_reducible rfl))
        try simp only [Act.put, List.setIfInBounds_toArray, List.set_cons_zero, List.set_cons_succ]
        refine wpAnyH_done (by kernel_rfl) ?_ _
        refine NoPanic.normal ?_
        go_wp2_with fail
        go_ret
        exact ⟨_, rfl, iff_of_false (by decide) (fun h => HLT.out (HR.out h)), hn⟩
    · go_wp2_with fail
      go_ret
      refine ⟨_, rfl, iff_of_true rfl ?_, HN.out⟩
      intro k h
      have h' : k + 1 < xs.length := by simpa using h
      have := HNO.out k h' (by omega)
      simpa using this
theorem rise56 {β : Type} {F : FRep β} {B : Nat → Prop} (v : Value) (xs : List (Nat × β)) (w : World) (hr : RdE 2 (E2 F) w B v xs) (hl : xs.length ≤ 1000000) :
    Calls Try.prog 56 #[v, .func (.func 57) #[] #[]] w (SameP (Rises (xs.map (·.1))) w) := by
  obtain ⟨a, cap, rfl, hat⟩ := e2_at hr
  have HAT := hid hat
  have HI := hid (fun n u w => idx_of57 n u w)
  clear hr hat
  go_enter Try.func56, Try.ntmps56
  go_wp2_with fail
  go_loopw [5] (fun c wr => ∃ i : Nat, c = .int .i64 i ∧ 1 ≤ i ∧ (∀ k (h : k + 1 < xs.length), k + 1 < i → (xs[k]).1 < (xs[k + 1]).1) ∧ New w wr) (fun c _ => xs.length - (intOf c).toNat)
  case atStart => exact ⟨1, rfl, by omega, fun k _ h => absurd h (by omega), Upd.refl _ _⟩
  case round =>
    obtain ⟨i, rfl, hi1, hno, hn⟩ := hrel
    have HN := hid hn
    have HNO := hid hno
    clear hn hno
    by_cases hi : i < xs.length
    · obtain ⟨p, hp⟩ : ∃ p, p + 1 = i := ⟨i - 1, by omega⟩
      have hpl : p < xs.length := by omega
      obtain ⟨b, o, u, rfl, hc0, hc1, _⟩ := HAT.out i hi
      obtain ⟨b', o', u', e, hd0, hd1, _⟩ := HAT.out p hpl
      cases e
      have HS : Hid ((xs[p]).1 < (xs[i]).1 → ∀ k (h : k + 1 < xs.length), k + 1 < i + 1 → (xs[k]).1 < (xs[k + 1]).1) := by
        show (xs[p]).1 < (xs[i]).1 → ∀ k (h : k + 1 < xs.length), k + 1 < i + 1 → (xs[k]).1 < (xs[k + 1]).1
        subst hp
        intro h0 k h h1
        rcases Nat.lt_or_ge k p with h3 | h3
        · exact HNO.out k h (by omega)
        · obtain rfl : k = p := by omega
          exact h0
      have HR : Hid (Rises (xs.map (·.1)) → (xs[p]).1 < (xs[i]).1) := by
        show Rises (xs.map (·.1)) → (xs[p]).1 < (xs[i]).1
        subst hp
        intro h
        have := h p (by simpa using hi)
        simpa using this
      have q0 := hid hc0
      have q1 := hid hc1
      have r0 := hid hd0
      have r1 := hid hd1
      have HI1 := hid hi1
      have e1 : IntKind.i64.wrap ((i : Int) - 1) = (p : Int) := by rw [IntWalk.i64_in _ (by omega)]; omega
      clear hc0 hc1 hd0 hd1 hp hi1
      generalize (xs[i]).1 = m at *
      generalize (xs[p]).1 = n at *
      have hn : New w wr.drew := HN.out.drew
      by_cases hlt : n < m
      · have hle : decide ((m : Int) ≤ (n : Int)) = false := by simpa using hlt
        have hle2 : decide (m ≤ n) = false := by simpa using hlt
        have hle3 : (m ≤ n) = False := by simpa using hlt
        have HLT := hid hlt
        clear hlt
        go_wp2_with fail
        refine wp_region_noPanic ?_
        refine wp_region_held_drew (S := (New w)) (by kernel_rfl) (by first | exact hn | exact (Upd.refl _ _).drew | exact Upd.drew (by assumption)) (fun hn => ?_)
        generalize wr.drew = wd at *
        refine wpAnyH_take (i := 0) (oi := { dst := some 12, op := Op.move (Operand.tmp 1), type := 99, pos := "names.go:179", after := #[], guard := none }) (v := ?v30x1) rfl (by kernel_rfl) (by kernel_rfl) (by kernel_rfl) (fun _ _ _ h => h) (Or.inl ⟨by rfl, ?y30x1⟩) hn ?r30x1
        case y30x1 => (intro wS hS; (try go_simp); (try with_reducible rfl))
        try simp only [Act.put, List.setIfInBounds_toArray, List.set_cons_zero, List.set_cons_succ]
        refine wpAnyH_take (i := 1) (oi := { dst := some 13, op := Op.move (Operand.tmp 0), type := 48, pos := "names.go:179", after := #[], guard := none }) (v := ?v30x2) rfl (by kernel_rfl) (by kernel_rfl) (by kernel_rfl) (fun _ _ _ h => h) (Or.inl ⟨by rfl, ?y30x2⟩) hn ?r30x2
        case y30x2 => (intro wS hS; (try go_simp); (try with_reducible rfl))
        try simp only [Act.put, List.setIfInBounds_toArray, List.set_cons_zero, List.set_cons_succ]
        refine wpAnyH_take (i := 2) (oi := { dst := some 14, op := Op.move (Operand.tmp 5), type := 3, pos := "names.go:179", after := #[], guard := none }) (v := ?v30x3) rfl (by kernel_rfl) (by kernel_rfl) (by kernel_rfl) (fun _ _ _ h => h) (Or.inl ⟨by rfl, ?y30x3⟩) hn ?r30x3
        case y30x3 => (intro wS hS; (try go_simp); (try with_reducible rfl))
        try simp only [Act.put, List.setIfInBounds_toArray, List.set_cons_zero, List.set_cons_succ]
        refine wpAnyH_take (i := 3) (oi := { dst := some 15, op := Op.indexAddr 48 (Operand.tmp 13) (Operand.tmp 14), type := 0, pos := "names.go:179", after := #[{ on := 1, ground := Ground.data }, { on := 2, ground := Ground.data }], guard := none }) (v := ?v30x4) rfl (by kernel_rfl) (by kernel_rfl) (by kernel_rfl) (fun _ _ _ h => h) (Or.inl ⟨by rfl, ?y30x4⟩) hn ?r30x4
        case y30x4 => (intro wS hS; (try go_simp); (try with_reducible rfl))
        try simp only [Act.put, List.setIfInBounds_toArray, List.set_cons_zero, List.set_cons_succ]
        refine wpAnyH_take (i := 4) (oi := { dst := some 16, op := Op.load 91 (Operand.tmp 15), type := 91, pos := "names.go:179", after := #[{ on := 3, ground := Ground.data }], guard := none }) (v := ?v30x5) rfl (by kernel_rfl) (by kernel_rfl) (by kernel_rfl) (fun _ _ _ h => h) (Or.inl ⟨by rfl, ?y30x5⟩) hn ?r30x5
        case y30x5 => (intro wS hS; have c0 := hS.cell q0.out (fun h => h); have c1 := hS.cell q1.out (fun h => h); (try go_simp); (try with_reducible rfl))
        try simp only [Act.put, List.setIfInBounds_toArray, List.set_cons_zero, List.set_cons_succ]
        refine wpAnyH_take (i := 6) (oi := { dst := some 18, op := Op.move (Operand.tmp 1), type := 99, pos := "names.go:179", after := #[], guard := none }) (v := ?v30x6) rfl (by kernel_rfl) (by kernel_rfl) (by kernel_rfl) (fun _ _ _ h => h) (Or.inl ⟨by rfl, ?y30x6⟩) hn ?r30x6
        case y30x6 => (intro wS hS; (try go_simp); (try with_reducible rfl))
        try simp only [Act.put, List.setIfInBounds_toArray, List.set_cons_zero, List.set_cons_succ]
        refine wpAnyH_take (i := 7) (oi := { dst := some 19, op := Op.move (Operand.tmp 0), type := 48, pos := "names.go:179", after := #[], guard := none }) (v := ?v30x7) rfl (by kernel_rfl) (by kernel_rfl) (by kernel_rfl) (fun _ _ _ h => h) (Or.inl ⟨by rfl, ?y30x7⟩) hn ?r30x7
        case y30x7 => (intro wS hS; (try go_simp); (try with_reducible rfl))
        try simp only [Act.put, List.setIfInBounds_toArray, List.set_cons_zero, List.set_cons_succ]
        refine wpAnyH_take (i := 8) (oi := { dst := some 20, op := Op.move (Operand.tmp 5), type := 3, pos := "names.go:179", after := #[], guard := none }) (v := ?v30x8) rfl (by kernel_rfl) (by kernel_rfl) (by kernel_rfl) (fun _ _ _ h => h) (Or.inl ⟨by rfl, ?y30x8⟩) hn ?r30x8
        case y30x8 => (intro wS hS; (try go_simp); (try with_reducible rfl))
        try simp only [Act.put, List.setIfInBounds_toArray, List.set_cons_zero, List.set_cons_succ]
        refine wpAnyH_take (i := 9) (oi := { dst := some 21, op := Op.binOp BinOp.sub 3 (Operand.tmp 20) (Operand.const (Value.int IntKind.i64 1)) 3, type := 3, pos := "names.go:179", after := #[{ on := 8, ground := Ground.data }], guard := none }) (v := ?v30x9) rfl (by kernel_rfl) (by kernel_rfl) (by kernel_rfl) (fun _ _ _ h => h) (Or.inl ⟨by rfl, ?y30x9⟩) hn ?r30x9
        case y30x9 => (intro wS hS; (try go_simp); (try with_reducible rfl))
        try simp only [Act.put, List.setIfInBounds_toArray, List.set_cons_zero, List.set_cons_succ]
        refine wpAnyH_take (i := 10) (oi := { dst := some 22, op := Op.indexAddr 48 (Operand.tmp 19) (Operand.tmp 21), type := 0, pos := "names.go:179", after := #[{ on := 7, ground := Ground.data }, { on := 9, ground := Ground.data }], guard := none }) (v := ?v30x10) rfl (by kernel_rfl) (by kernel_rfl) (by kernel_rfl) (fun _ _ _ h => h) (Or.inl ⟨by rfl, ?y30x10⟩) hn ?r30x10
        case y30x10 => (intro wS hS; (try go_simp); (try with_reducible rfl))
        try simp only [Act.put, List.setIfInBounds_toArray, List.set_cons_zero, List.set_cons_succ]
        refine wpAnyH_take (i := 11) (oi := { dst := some 23, op := Op.load 91 (Operand.tmp 22), type := 91, pos := "names.go:179", after := #[{ on := 10, ground := Ground.data }], guard := none }) (v := ?v30x11) rfl (by kernel_rfl) (by kernel_rfl) (by kernel_rfl) (fun _ _ _ h => h) (Or.inl ⟨by rfl, ?y30x11⟩) hn ?r30x11
        case y30x11 => (intro wS hS; have c0 := hS.cell r0.out (fun h => h); have c1 := hS.cell r1.out (fun h => h); (try go_simp); (try with_reducible rfl))
        try simp only [Act.put, List.setIfInBounds_toArray, List.set_cons_zero, List.set_cons_succ]
        refine wpAnyH_ready (rs := [5]) (by kernel_rfl) (by simp) ?_
        refine AllReadyH.cons (o := { dst := some 17, op := Op.call { callee := Callee.value (Operand.tmp 12), args := #[Operand.tmp 16], argTypes := #[91] }, type := 22, pos := "names.go:179", after := #[{ on := 0, ground := Ground.data }, { on := 4, ground := Ground.data }], guard := none }) rfl (fun K hK => ?_) AllReadyH.nil
        go_simp
        refine (HI.out _ _ _).mono ?_
        rintro e wq ⟨rfl, hnq⟩
        go_wp2_with fail
        have hn := New.trans hn hnq
        refine hK.out _ _ (by first | exact hn | exact Upd.alloc hn _) (fun hn => ?_)
        clear hK K
        try simp only [Act.put, List.setIfInBounds_toArray, List.set_cons_zero, List.set_cons_succ]
        refine wpAnyH_ready (rs := [12]) (by kernel_rfl) (by simp) ?_
        refine AllReadyH.cons (o := { dst := some 24, op := Op.call { callee := Callee.value (Operand.tmp 18), args := #[Operand.tmp 23], argTypes := #[91] }, type := 22, pos := "names.go:179", after := #[{ on := 6, ground := Ground.data }, { on := 11, ground := Ground.data }, { on := 5, ground := Ground.chain }], guard := none }) rfl (fun K hK => ?_) AllReadyH.nil
        go_simp
        refine (HI.out _ _ _).mono ?_
        rintro e wt ⟨rfl, hnq⟩
        go_wp2_with fail
        have hn := New.trans hn hnq
        refine hK.out _ _ (by first | exact hn | exact Upd.alloc hn _) (fun hn => ?_)
        clear hK K
        try simp only [Act.put, List.setIfInBounds_toArray, List.set_cons_zero, List.set_cons_succ]
        refine wpAnyH_take (i := 13) (oi := { dst := some 25, op := Op.binOp BinOp.leq 22 (Operand.tmp 17) (Operand.tmp 24) 22, type := 4, pos := "names.go:179", after := #[{ on := 5, ground := Ground.data }, { on := 12, ground := Ground.data }], guard := none }) (v := ?v30x12) rfl (by kernel_rfl) (by kernel_rfl) (by kernel_rfl) (fun _ _ _ h => h) (Or.inl ⟨by rfl, ?y30x12⟩) hn ?r30x12
        case y30x12 => (intro wS hS; (try go_simp); (try with_reducible rfl))
        try simp only [Act.put, List.setIfInBounds_toArray, List.set_cons_zero, List.set_cons_succ]
        refine wpAnyH_done (by kernel_rfl) ?_ _
        refine NoPanic.normal ?_
        clear e1
        have HH := hid hn
        clear hn
        go_wp2_with fail
        go_roundw
        case rel => exact ⟨i + 1, by go_num, by omega, HS.out HLT.out, HH.out⟩
        case measure => (simp [intOf]; omega)
      · have hle : decide ((m : Int) ≤ (n : Int)) = true := by simpa using hlt
        have hle2 : decide (m ≤ n) = true := by simpa using hlt
        have hle3 : (m ≤ n) = True := by simpa using hlt
        have HLT := hid hlt
        clear hlt
        go_wp2_with fail
        refine wp_region_noPanic ?_
        refine wp_region_held_drew (S := (New w)) (by kernel_rfl) (by first | exact hn | exact (Upd.refl _ _).drew | exact Upd.drew (by assumption)) (fun hn => ?_)
        generalize wr.drew = wd at *
        refine wpAnyH_take (i := 0) (oi := { dst := some 12, op := Op.move (Operand.tmp 1), type := 99, pos := "names.go:179", after := #[], guard := none }) (v := ?v31x1) rfl (by kernel_rfl) (by kernel_rfl) (by kernel_rfl) (fun _ _ _ h => h) (Or.inl ⟨by rfl, ?y31x1⟩) hn ?r31x1
        case y31x1 => (intro wS hS; (try go_simp); (try with_reducible rfl))
        try simp only [Act.put, List.setIfInBounds_toArray, List.set_cons_zero, List.set_cons_succ]
        refine wpAnyH_take (i := 1) (oi := { dst := some 13, op := Op.move (Operand.tmp 0), type := 48, pos := "names.go:179", after := #[], guard := none }) (v := ?v31x2) rfl (by kernel_rfl) (by kernel_rfl) (by kernel_rfl) (fun _ _ _ h => h) (Or.inl ⟨by rfl, ?y31x2⟩) hn ?r31x2
        case y31x2 => (intro wS hS; (try go_simp); (try with_reducible rfl))
        try simp only [Act.put, List.setIfInBounds_toArray, List.set_cons_zero, List.set_cons_succ]
        refine wpAnyH_take (i := 2) (oi := { dst := some 14, op := Op.move (Operand.tmp 5), type := 3, pos := "names.go:179", after := #[], guard := none }) (v := ?v31x3) rfl (by kernel_rfl) (by kernel_rfl) (by kernel_rfl) (fun _ _ _ h => h) (Or.inl ⟨by rfl, ?y31x3⟩) hn ?r31x3
        case y31x3 => (intro wS hS; (try go_simp); (try with_reducible rfl))
        try simp only [Act.put, List.setIfInBounds_toArray, List.set_cons_zero, List.set_cons_succ]
        refine wpAnyH_take (i := 3) (oi := { dst := some 15, op := Op.indexAddr 48 (Operand.tmp 13) (Operand.tmp 14), type := 0, pos := "names.go:179", after := #[{ on := 1, ground := Ground.data }, { on := 2, ground := Ground.data }], guard := none }) (v := ?v31x4) rfl (by kernel_rfl) (by kernel_rfl) (by kernel_rfl) (fun _ _ _ h => h) (Or.inl ⟨by rfl, ?y31x4⟩) hn ?r31x4
        case y31x4 => (intro wS hS; (try go_simp); (try with_reducible rfl))
        try simp only [Act.put, List.setIfInBounds_toArray, List.set_cons_zero, List.set_cons_succ]
        refine wpAnyH_take (i := 4) (oi := { dst := some 16, op := Op.load 91 (Operand.tmp 15), type := 91, pos := "names.go:179", after := #[{ on := 3, ground := Ground.data }], guard := none }) (v := ?v31x5) rfl (by kernel_rfl) (by kernel_rfl) (by kernel_rfl) (fun _ _ _ h => h) (Or.inl ⟨by rfl, ?y31x5⟩) hn ?r31x5
        case y31x5 => (intro wS hS; have c0 := hS.cell q0.out (fun h => h); have c1 := hS.cell q1.out (fun h => h); (try go_simp); (try with_reducible rfl))
        try simp only [Act.put, List.setIfInBounds_toArray, List.set_cons_zero, List.set_cons_succ]
        refine wpAnyH_take (i := 6) (oi := { dst := some 18, op := Op.move (Operand.tmp 1), type := 99, pos := "names.go:179", after := #[], guard := none }) (v := ?v31x6) rfl (by kernel_rfl) (by kernel_rfl) (by kernel_rfl) (fun _ _ _ h => h) (Or.inl ⟨by rfl, ?y31x6⟩) hn ?r31x6
        case y31x6 => (intro wS hS; (try go_simp); (try with_reducible rfl))
        try simp only [Act.put, List.setIfInBounds_toArray, List.set_cons_zero, List.set_cons_succ]
        refine wpAnyH_take (i := 7) (oi := { dst := some 19, op := Op.move (Operand.tmp 0), type := 48, pos := "names.go:179", after := #[], guard := none }) (v := ?v31x7) rfl (by kernel_rfl) (by kernel_rfl) (by kernel_rfl) (fun _ _ _ h => h) (Or.inl ⟨by rfl, ?y31x7⟩) hn ?r31x7
        case y31x7 => (intro wS hS; (try go_simp); (try with_reducible rfl))
        try simp only [Act.put, List.setIfInBounds_toArray, List.set_cons_zero, List.set_cons_succ]
        refine wpAnyH_take (i := 8) (oi := { dst := some 20, op := Op.move (Operand.tmp 5), type := 3, pos := "names.go:179", after := #[], guard := none }) (v := ?v31x8) rfl (by kernel_rfl) (by kernel_rfl) (by kernel_rfl) (fun _ _ _ h => h) (Or.inl ⟨by rfl, ?y31x8⟩) hn ?r31x8
        case y31x8 => (intro wS hS; (try go_simp); (try with_reducible rfl))
        try simp only [Act.put, List.setIfInBounds_toArray, List.set_cons_zero, List.set_cons_succ]
        refine wpAnyH_take (i := 9) (oi := { dst := some 21, op := Op.binOp BinOp.sub 3 (Operand.tmp 20) (Operand.const (Value.int IntKind.i64 1)) 3, type := 3, pos := "names.go:179", after := #[{ on := 8, ground := Ground.data }], guard := none }) (v := ?v31x9) rfl (by kernel_rfl) (by kernel_rfl) (by kernel_rfl) (fun _ _ _ h => h) (Or.inl ⟨by rfl, ?y31x9⟩) hn ?r31x9
        case y31x9 => (intro wS hS; (try go_simp); (try with_reducible rfl))
        try simp only [Act.put, List.setIfInBounds_toArray, List.set_cons_zero, List.set_cons_succ]
        refine wpAnyH_take (i := 10) (oi := { dst := some 22, op := Op.indexAddr 48 (Operand.tmp 19) (Operand.tmp 21), type := 0, pos := "names.go:179", after := #[{ on := 7, ground := Ground.data }, { on := 9, ground := Ground.data }], guard := none }) (v := ?v31x10) rfl (by kernel_rfl) (by kernel_rfl) (by kernel_rfl) (fun _ _ _ h => h) (Or.inl ⟨by rfl, ?y31x10⟩) hn ?r31x10
        case y31x10 => (intro wS hS; (try go_simp); (try with_reducible rfl))
        try simp only [Act.put, List.setIfInBounds_toArray, List.set_cons_zero, List.set_cons_succ]
        refine wpAnyH_take (i := 11) (oi := { dst := some 23, op := Op.load 91 (Operand.tmp 22), type := 91, pos := "names.go:179", after := #[{ on := 10, ground := Ground.data }], guard := none }) (v := ?v31x11) rfl (by kernel_rfl) (by kernel_rfl) (by kernel_rfl) (fun _ _ _ h => h) (Or.inl ⟨by rfl, ?y31x11⟩) hn ?r31x11
        case y31x11 => (intro wS hS; have c0 := hS.cell r0.out (fun h => h); have c1 := hS.cell r1.out (fun h => h); (try go_simp); (try with_reducible rfl))
        try simp only [Act.put, List.setIfInBounds_toArray, List.set_cons_zero, List.set_cons_succ]
        refine wpAnyH_ready (rs := [5]) (by kernel_rfl) (by simp) ?_
        refine AllReadyH.cons (o := { dst := some 17, op := Op.call { callee := Callee.value (Operand.tmp 12), args := #[Operand.tmp 16], argTypes := #[91] }, type := 22, pos := "names.go:179", after := #[{ on := 0, ground := Ground.data }, { on := 4, ground := Ground.data }], guard := none }) rfl (fun K hK => ?_) AllReadyH.nil
        go_simp
        refine (HI.out _ _ _).mono ?_
        rintro e wq ⟨rfl, hnq⟩
        go_wp2_with fail
        have hn := New.trans hn hnq
        refine hK.out _ _ (by first | exact hn | exact Upd.alloc hn _) (fun hn => ?_)
        clear hK K
        try simp only [Act.put, List.setIfInBounds_toArray, List.set_cons_zero, List.set_cons_succ]
        refine wpAnyH_ready (rs := [12]) (by kernel_rfl) (by simp) ?_
        refine AllReadyH.cons (o := { dst := some 24, op := Op.call { callee := Callee.value (Operand.tmp 18), args := #[Operand.tmp 23], argTypes := #[91] }, type := 22, pos := "names.go:179", after := #[{ on := 6, ground := Ground.data }, { on := 11, ground := Ground.data }, { on := 5, ground := Ground.chain }], guard := none }) rfl (fun K hK => ?_) AllReadyH.nil
        go_simp
        refine (HI.out _ _ _).mono ?_
        rintro e wt ⟨rfl, hnq⟩
        go_wp2_with fail
        have hn := New.trans hn hnq
        refine hK.out _ _ (by first | exact hn | exact Upd.alloc hn _) (fun hn => ?_)
        clear hK K
        try simp only [Act.put, List.setIfInBounds_toArray, List.set_cons_zero, List.set_cons_succ]
        refine wpAnyH_take (i := 13) (oi := { dst := some 25, op := Op.binOp BinOp.leq 22 (Operand.tmp 17) (Operand.tmp 24) 22, type := 4, pos := "names.go:179", after := #[{ on := 5, ground := Ground.data }, { on := 12, ground := Ground.data }], guard := none }) (v := ?v31x12) rfl (by kernel_rfl) (by kernel_rfl) (by kernel_rfl) (fun _ _ _ h => h) (Or.inl ⟨by rfl, ?y31x12⟩) hn ?r31x12
        case y31x12 => (intro wS hS; (try go_simp); (try with_reducible rfl))
        try simp only [Act.put, List.setIfInBounds_toArray, List.set_cons_zero, List.set_cons_succ]
        refine wpAnyH_done (by kernel_rfl) ?_ _
        refine NoPanic.normal ?_
        go_wp2_with fail
        go_ret
        exact ⟨_, rfl, iff_of_false (by decide) (fun h => HLT.out (HR.out h)), hn⟩
    · go_wp2_with fail
      go_ret
      refine ⟨_, rfl, iff_of_true rfl ?_, HN.out⟩
      intro k h
      have h' : k + 1 < xs.length := by simpa using h
      have := HNO.out k h' (by omega)
      simpa using this
end Go.Proofs.Ytnngibflnnmioaa
