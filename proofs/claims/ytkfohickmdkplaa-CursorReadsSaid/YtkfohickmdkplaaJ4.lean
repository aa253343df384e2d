/-
  The document's reader: limits that are met; bytes as they are.
-/
import Derived.Test.YtkfohickmdkplaaJ3
import Derived.Test.YtkfohickmdkplaaJ2
import Derived.Test.YtkfohickmdkplaaChecked
import Derived.Test.YtkfohickmdkplaaJ0
import Derived.Deep.RegionHeld3
import Derived.Deep.DeepCutAuto
import Derived.WalkMore
import Derived.Deep.LoopGhost
import Derived.Test.YtkfohickmdkplaaJ1
import Derived.Laws.DeepStrings4
namespace Go.Proofs.Ytkfohickmdkplaa
open Go.RowKit Go.Proofs.Leb Go.Proofs.Own Go.Proofs.Cur
set_option maxRecDepth 100000
set_option maxHeartbeats 4000000

structure SL (a : World) (R q : Nat) (w' : World) : Prop where
  up : Upd (· = R) a w'
  c1 : w'.cell? ⟨R, 1, none⟩ = some (.int .i64 q)
theorem SL.new {a b c : World} {R q : Nat} (h : SL a R q b) (hn : New b c) : SL a R q c := ⟨h.up.thenNew hn, hn.cell h.c1 (fun h => h)⟩
theorem SL.upd {a b c : World} {R q : Nat} (h : SL a R q b) (hu : Upd (· = R) b c) (h1 : c.cell? ⟨R, 1, none⟩ = some (.int .i64 q)) : SL a R q c := ⟨h.up.trans hu (fun _ _ h => h), h1⟩

theorem rLeave_gone {w : World} {R : Nat} {B : ByteArray} {p : Nat} {lim : Int} {er sp : Nat} (h : Rdr w R B p lim er sp) (he : er ≠ 0) (was : Int) :
    Calls Try.prog 37 #[.pointer (some ⟨R, 0, none⟩), .int .i64 was] w fun e w' => e = .returned (.tuple #[]) ∧ w = w' := by
  have c3 := h.c3
  have hb : ((er : Int) == 0) = false := by rw [beq_eq_false_iff_ne]; omega
  go_enter Try.func37, Try.ntmps37
  go_wp2
  go_end0
  exact ⟨rfl, rfl⟩
def LeaveP (w : World) (R : Nat) (B : ByteArray) (p : Nat) (r was : Int) (e : Ending) (w' : World) : Prop :=
  e = .returned (.tuple #[]) ∧ Upd (· = R) w w' ∧ Rdr w' R B p was (if r = 0 then 0 else 2) (if r = 0 then 0 else p)
theorem rLeave_any {w : World} {R : Nat} {B : ByteArray} {p : Nat} {lim : Int} (h : Rdr w R B p lim 0 0) (hi : Inv B.size lim p) (was : Int) :
    Calls Try.prog 37 #[.pointer (some ⟨R, 0, none⟩), .int .i64 was] w (LeaveP w R B p (rest lim p) was) := by
  have c3 := h.c3
  have H0 := hid h
  have HRS : Hid (∀ W, New w W → Calls Try.prog 38 #[.pointer (some ⟨R, 0, none⟩)] W fun e w' => e = .returned (.int .i64 (rest lim p)) ∧ New W w') := fun W hW => rRest_any (h.new hW) hi
  obtain ⟨r, hr⟩ : ∃ r, rest lim p = r := ⟨_, rfl⟩
  rw [hr] at HRS ⊢
  clear hi hr h
  go_enter Try.func37, Try.ntmps37
  go_wp2_with fail
  have hnn : New w w.drew := (Upd.refl _ _).drew
  have hn : SL w R p w.drew := ⟨(Upd.refl _ _).drew, H0.out.c1⟩
  refine wp_region_noPanic ?_
  refine wp_region_held_drew (S := (SL w R p)) (by kernel_rfl) (by first | exact hn | exact (Upd.refl _ _).drew | exact Upd.drew (by assumption)) (fun hn => ?_)
  generalize w.drew = wd at *
  refine wpAnyH_take (i := 0) (oi := { dst := some 9, op := Op.move (Operand.tmp 0), type := 33, pos := "ref.go:270", after := #[], guard := none }) (v := ?v14x1) rfl (by kernel_rfl) (by kernel_rfl) (by kernel_rfl) (fun _ _ _ h => h) (Or.inl ⟨by rfl, ?y14x1⟩) hn ?r14x1
  case y14x1 => (intro wS hS; (try go_simp); (try with_reducible rfl))
  try simp only [Act.put, List.setIfInBounds_toArray, List.set_cons_zero, List.set_cons_succ]
  refine wpAnyH_take (i := 1) (oi := { dst := some 10, op := Op.move (Operand.tmp 0), type := 33, pos := "ref.go:270", after := #[], guard := none }) (v := ?v14x2) rfl (by kernel_rfl) (by kernel_rfl) (by kernel_rfl) (fun _ _ _ h => h) (Or.inl ⟨by rfl, ?y14x2⟩) hn ?r14x2
  case y14x2 => (intro wS hS; (try go_simp); (try with_reducible rfl))
  try simp only [Act.put, List.setIfInBounds_toArray, List.set_cons_zero, List.set_cons_succ]
  refine wpAnyH_take (i := 4) (oi := { dst := some 13, op := Op.move (Operand.tmp 0), type := 33, pos := "ref.go:270", after := #[], guard := none }) (v := ?v14x3) rfl (by kernel_rfl) (by kernel_rfl) (by kernel_rfl) (fun _ _ _ h => h) (Or.inl ⟨by rfl, ?y14x3⟩) hn ?r14x3
  case y14x3 => (intro wS hS; (try go_simp); (try with_reducible rfl))
  try simp only [Act.put, List.setIfInBounds_toArray, List.set_cons_zero, List.set_cons_succ]
  refine wpAnyH_take (i := 5) (oi := { dst := some 14, op := Op.nilCheck (Operand.tmp 13), type := 0, pos := "ref.go:270", after := #[{ on := 4, ground := Ground.data }], guard := none }) (v := ?v14x4) rfl (by kernel_rfl) (by kernel_rfl) (by kernel_rfl) (fun _ _ _ h => h) (Or.inl ⟨by rfl, ?y14x4⟩) hn ?r14x4
  case y14x4 => (intro wS hS; (try go_simp); (try with_reducible rfl))
  try simp only [Act.put, List.setIfInBounds_toArray, List.set_cons_zero, List.set_cons_succ]
  refine wpAnyH_take (i := 6) (oi := { dst := some 15, op := Op.fieldAddr 37 (Operand.tmp 14) 1, type := 0, pos := "ref.go:270", after := #[{ on := 5, ground := Ground.data }], guard := none }) (v := ?v14x5) rfl (by kernel_rfl) (by kernel_rfl) (by kernel_rfl) (fun _ _ _ h => h) (Or.inl ⟨by rfl, ?y14x5⟩) hn ?r14x5
  case y14x5 => (intro wS hS; (try go_simp); (try with_reducible rfl))
  try simp only [Act.put, List.setIfInBounds_toArray, List.set_cons_zero, List.set_cons_succ]
  refine wpAnyH_take (i := 7) (oi := { dst := some 16, op := Op.load 3 (Operand.tmp 15), type := 3, pos := "ref.go:270", after := #[{ on := 6, ground := Ground.data }], guard := none }) (v := ?v14x6) rfl (by kernel_rfl) (by kernel_rfl) (by kernel_rfl) (fun _ _ _ h => h) (Or.inl ⟨by rfl, ?y14x6⟩) hn ?r14x6
  case y14x6 => (intro wS hS; have c := hS.c1; (try go_simp); (try with_reducible rfl))
  try simp only [Act.put, List.setIfInBounds_toArray, List.set_cons_zero, List.set_cons_succ]
  refine wpAnyH_ready (rs := [2]) (by kernel_rfl) (by simp) ?_
  refine AllReadyH.cons (o := { dst := some 11, op := Op.call { callee := Callee.value (Operand.func 38), args := #[Operand.tmp 10], argTypes := #[33] }, type := 3, pos := "ref.go:270", after := #[{ on := 1, ground := Ground.data }], guard := none }) rfl (fun K hK => ?_) AllReadyH.nil
  go_simp
  refine (HRS.out _ hnn).mono ?_
  rintro e wa ⟨rfl, hna⟩
  go_wp2_with fail
  have hn := hn.new hna
  have hnn := New.trans hnn hna
  refine hK.out _ _ (by first | exact hn | exact Upd.alloc hn _) (fun hn => ?_)
  clear hK K
  try simp only [Act.put, List.setIfInBounds_toArray, List.set_cons_zero, List.set_cons_succ]
  refine wpAnyH_take (i := 3) (oi := { dst := some 12, op := Op.binOp BinOp.eql 3 (Operand.tmp 11) (Operand.const (Value.int IntKind.i64 0)) 3, type := 4, pos := "ref.go:270", after := #[{ on := 2, ground := Ground.data }], guard := none }) (v := ?v14x7) rfl (by kernel_rfl) (by kernel_rfl) (by kernel_rfl) (fun _ _ _ h => h) (Or.inl ⟨by rfl, ?y14x7⟩) hn ?r14x7
  case y14x7 => (intro wS hS; (try go_simp); (try with_reducible rfl))
  try simp only [Act.put, List.setIfInBounds_toArray, List.set_cons_zero, List.set_cons_succ]
  refine wpAnyH_ready (rs := [8]) (by kernel_rfl) (by simp) ?_
  refine AllReadyH.cons (o := { dst := some 17, op := Op.call { callee := Callee.value (Operand.func 31), args := #[Operand.tmp 9, Operand.tmp 12, Operand.tmp 16], argTypes := #[33, 4, 3] }, type := 0, pos := "ref.go:270", after := #[{ on := 0, ground := Ground.data }, { on := 3, ground := Ground.data }, { on := 7, ground := Ground.data }, { on := 2, ground := Ground.chain }], guard := none }) rfl (fun K hK => ?_) AllReadyH.nil
  go_simp
  refine (rNeed_any' (H0.out.new hnn) (r == 0) p).mono ?_
  rintro e wc ⟨rfl, h5, u5⟩
  have H5 := hid h5
  go_wp2_with fail
  have hn := hn.upd u5 h5.c1
  clear h5
  refine hK.out _ _ (by first | exact hn | exact Upd.alloc hn _) (fun hn => ?_)
  clear hK K
  try simp only [Act.put, List.setIfInBounds_toArray, List.set_cons_zero, List.set_cons_succ]
  refine wpAnyH_done (by kernel_rfl) ?_ _
  refine NoPanic.normal ?_
  have h5 := H5.out
  have c2 := h5.c2
  have f2 := h5.f 2
  have H6 := hid (h5.lim2 was)
  have U6 := hid (hn.up.trans (updR _ R 2 (.int .i64 was)) (fun _ _ h => h))
  clear h5 hn hnn hna u5
  go_wp2_with fail
  go_end0
  refine ⟨rfl, U6.out, ?_⟩
  have h6 := H6.out
  by_cases hz : r = 0
  · subst hz
    exact h6
  · rw [if_neg hz, if_neg hz]
    have : (r == 0) = false := by simpa using hz
    rw [this] at h6
    exact h6
end Go.Proofs.Ytkfohickmdkplaa

namespace Go.Proofs.Ytkfohickmdkplaa
open Go.RowKit Go.Proofs.Leb Go.Proofs.Own Go.Proofs.Cur
set_option maxRecDepth 100000
set_option maxHeartbeats 4000000

theorem st_cat2 (a b : List UInt8) : (⟨a.toArray⟩ : ByteArray) ++ ⟨b.toArray⟩ = ⟨(a ++ b).toArray⟩ := by
  apply ByteArray.ext
  simp

/-- one byte as a text, from the block in which it is laid -/
theorem conv1 (w : World) (x : UInt8) : (convert 22 9 (.slice (some ⟨w.heap.size, 0, none⟩) 1 1)).run Try.prog (w.alloc (.cells #[.int .u8 x.toNat] 5)) = .ok (.string ⟨[x].toArray⟩) (w.alloc (.cells #[.int .u8 x.toNat] 5)) :=
  (Rd.lit w [x] 5).str

theorem rest_at {lim : Int} {p i : Nat} : rest lim (p + i) = if lim = -1 then 1099511627776 else rest lim p - i := by
  unfold rest
  split <;> omega

structure WInv (R : Nat) (B : ByteArray) (lim : Int) (p : Nat) (n : Int) (O : Out (List UInt8)) (w : World) (i k : Nat) (A : ByteArray) (wr : World) : Prop where
  up : Upd (· = R) w wr
  st : (Rdr wr R B (p + i) lim 0 0 ∧ Inv B.size lim (p + i) ∧ ((i : Int) ≤ n ∨ i = 0) ∧ A = ⟨((B.data.toList.drop p).take i).toArray⟩ ∧ k = B.size - p - i + 1) ∨
    (∃ p' er sp, er ≠ 0 ∧ Rdr wr R B p' lim er sp ∧ O = .up sp er ∧ k = 0 ∧ i ≤ B.size + 1)

theorem rRaw_any {w : World} {R : Nat} {B : ByteArray} {p : Nat} {lim : Int} (h : Rdr w R B p lim 0 0) (hi : Inv B.size lim p) (n : Int) (hn : n ≤ 9223372036854775807) :
    Calls Try.prog 34 #[.pointer (some ⟨R, 0, none⟩), .int .i64 n] w (RGot R B lim strV (rawO B.data.toList lim n p) w) := by
  have HI := hid hi
  have il := hi.len
  obtain ⟨O, hO⟩ : ∃ O, rawO B.data.toList lim n p = O := ⟨_, rfl⟩
  have HO := hid hO
  rw [hO]
  have i0 : WInv R B lim p n O w 0 (B.size - p + 1) ⟨#[]⟩ w := ⟨Upd.refl _ _, .inl ⟨h, hi, .inr rfl, by simp, rfl⟩⟩
  have I0 := hid i0
  have HL := hid (size_list B)
  clear hi h hO i0
  go_enter Try.func34, Try.ntmps34
  go_wp2_with fail
  go_loopg [5, 6, 7] (B.size - p + 1) (fun k a b _ wr => ∃ (i : Nat) (A : ByteArray), a = .string A ∧ b = .int .i64 i ∧ WInv R B lim p n O w i k A wr)
  case atStart => exact ⟨0, ⟨#[]⟩, rfl, rfl, I0.out⟩
  case round =>
    obtain ⟨i, A, rfl, rfl, hinv⟩ := hrel
    have IR := hid hinv
    clear hinv I0
    rcases IR.out.st with ⟨hq, hiq, hin, hA, hk⟩ | ⟨p', er, sp, he, hr, ho, hk, hib⟩
    · have HQ := hid hq
      have HIQ := hid hiq
      have HA := hid hA
      have HK := hid hk
      have hip := hiq.place
      have hasz : A.size = i := by
        rw [hA]
        show (((B.data.toList.drop p).take i).toArray).size = i
        simp
        omega
      have c3 := hq.c3
      by_cases hlt : (i : Int) < n
      · have HNX := hid (rNext_any hq hiq)
        have HIN := hid hin
        clear hq hiq hA hk hin
        go_wp2_with fail
        refine HNX.out.mono ?_
        rintro e w2 ⟨hu2, hm2⟩
        have U2 := hid (IR.out.up.trans hu2 (fun _ _ h => h))
        cases ho : nextO B.data.toList lim (p + i) with
        | up q' er =>
          rw [ho] at hm2
          obtain ⟨a, p', rfl, hr2⟩ := hm2
          have hne := nextO_er ho
          have HNE := hid hne
          have HOU : Hid (O = .up q' er) := by
            show _ = _
            rw [← HO.out]
            have hrp := HI.out.rest
            have hpl := HI.out.place
            have hlim := HI.out.lim
            unfold nextO at ho
            unfold rawO
            rw [HL.out]
            have hL := HL.out
            have hra := rest_at (lim := lim) (p := p) (i := i)
            split at ho
            · rename_i h0
              cases ho
              rw [hra] at h0
              have hl1 : lim ≠ -1 := by intro hl; rw [if_pos hl] at h0; simp at h0
              rw [if_neg hl1] at h0
              rw [if_neg (by omega), if_neg (by omega)]
              congr 1
              omega
            · rename_i h0
              split at ho
              · cases ho
              · cases ho
                have hin := HIN.out
                rw [hra] at h0
                by_cases hl1 : lim = -1
                · have hrr : rest lim p = 1099511627776 := by unfold rest; rw [if_pos hl1]
                  rw [hrr, if_neg (by omega), if_pos (by omega)]
                  congr 1
                  omega
                · rw [if_neg hl1] at h0
                  have h1 := HIQ.out.rest
                  rw [hra, if_neg hl1] at h1
                  rw [if_neg (by omega), if_pos (by omega)]
                  congr 1
                  omega
          have c3 := hr2.c3
          have hb : ((er : Int) == 0) = false := by rw [beq_eq_false_iff_ne]; omega
          have HR2 := hid hr2
          clear ho hr2 hu2 hne
          unfold cb
          go_wp2_with fail
          go_roundg 0
          case measure => rw [HK.out]; omega
          case rel => exact ⟨i + 1, A, rfl, by go_num, U2.out, .inr ⟨p', er, q', HNE.out, HR2.out, HOU.out, rfl, by omega⟩⟩
        | ok b q' =>
          rw [ho] at hm2
          obtain ⟨rfl, hr2⟩ := hm2
          have c3 := hr2.c3
          obtain ⟨rfl, hpl, hr0⟩ := nextO_ok ho
          have hbx : b = (B.data.toList)[p + i] := by
            unfold nextO at ho
            rw [if_neg hr0, dif_pos hpl] at ho
            cases ho; rfl
          rw [HL.out] at hpl
          have HBX : Hid (B.data.toList[p + i]? = some b) := by
            show _ = _
            rw [hbx]; exact List.getElem?_eq_getElem _
          have HIQ2 := hid (HIQ.out.next hr0 hpl)
          have HR2 := hid hr2
          have hcv := conv1 w2 b
          have hsz1 : ¬ 9223372036854775807 < A.size + (⟨[b].toArray⟩ : ByteArray).size := by
            have : (⟨[b].toArray⟩ : ByteArray).size = 1 := rfl
            omega
          have hn3 := (Upd.refl (fun _ => False) w2).alloc (.cells #[.int .u8 b.toNat] 5)
          have H3 := hid (HR2.out.new hn3)
          have U3 := hid (U2.out.thenNew hn3)
          clear ho hr2 hu2 hbx hr0 hn3
          unfold cb
          generalize hB1 : (⟨[b].toArray⟩ : ByteArray) = B1 at *
          have HB1 := hid hB1
          clear hB1
          go_wp2_with fail
          go_roundg (B.size - p - (i + 1) + 1)
          case measure => rw [HK.out]; omega
          case rel =>
            refine ⟨i + 1, A ++ B1, rfl, by go_num, U3.out, .inl ⟨H3.out, HIQ2.out, .inl (by omega), ?_, rfl⟩⟩
            rw [HA.out, ← HB1.out, st_cat2]
            congr 2
            rw [List.take_add_one, List.getElem?_drop, HBX.out]
            rfl
      · have HO5 : Hid (O = .ok ((B.data.toList.drop p).take i) (p + i)) := by
          show _ = _
          have h1 := hiq.rest
          have hra := rest_at (lim := lim) (p := p) (i := i)
          have hnt : n.toNat = i := by omega
          rw [← HO.out]
          unfold rawO
          rw [HL.out, hnt]
          rw [hra] at h1
          by_cases hl1 : lim = -1
          · have hrr : rest lim p = 1099511627776 := by unfold rest; rw [if_pos hl1]
            rw [hrr, if_pos (by omega)]
          · rw [if_neg hl1] at h1
            rw [if_pos (by omega)]
        clear hq hiq hA hk hin
        go_wp2_with fail
        go_ret
        refine RGot.mk_ok HO5.out IR.out.up ?_ HQ.out
        unfold strV
        rw [← HA.out]
        rfl
    · have HE := hid he
      have HR := hid hr
      have HO2 := hid ho
      have c3 := hr.c3
      have hb : ((er : Int) == 0) = false := by rw [beq_eq_false_iff_ne]; omega
      clear he hr ho
      by_cases hlt : (i : Int) < n
      all_goals
        go_wp2_with fail
        go_ret
        exact RGot.mk_up (A.data.toList) HO2.out IR.out.up (by unfold strV; rfl) HR.out
end Go.Proofs.Ytkfohickmdkplaa

namespace Go.Proofs.Ytkfohickmdkplaa
open Go.RowKit Go.Proofs.Leb Go.Proofs.Own Go.Proofs.Cur
set_option maxRecDepth 100000
set_option maxHeartbeats 2000000

/-- the next byte, if 'may' allows it -/
structure Away (T : Nat → Prop) (C : Nat) (v : Value) (bs : List UInt8) : Prop where
  c : ¬ T C
  v : bs ≠ [] → ∀ k, v.ownBlock = some k → ¬ T k

/-- it answers whether something is so, and writes besides -/
def YesK (q : Prop) (T : Nat → Prop) (K : World → Prop) (w : World) (e : Ending) (w' : World) : Prop := ∃ b, e = .returned (.bool b) ∧ (b = true ↔ q) ∧ Upd T w w' ∧ (b = true → K w')
/-- what comes of reading, where something else is written -/
def GotK {α : Type} (C : Nat) (v : Value) (bs : List UInt8) (lim : Int) (V : α → Value) (T : Nat → Prop) (K : World → Prop) (o : Out α) (w : World) (e : Ending) (w' : World) : Prop :=
  Upd (fun k => k = C ∨ T k) w w' ∧ match o with
    | .ok a q => e = .returned (V a) ∧ Cur w' C v bs q lim 0 ∧ K w'
    | .up q er => e = .panicked [{ v := gave C, recovered := false }] ∧ Cur w' C v bs q lim er
theorem GotK.mk_ok {α : Type} {C : Nat} {v : Value} {bs : List UInt8} {lim : Int} {V : α → Value} {T : Nat → Prop} {K : World → Prop} {o : Out α} {w : World} {e : Ending} {w' : World} {a : α} {q : Nat} (h : o = .ok a q)
    (hu : Upd (fun k => k = C ∨ T k) w w') (he : e = .returned (V a)) (hc : Cur w' C v bs q lim 0) (hk : K w') : GotK C v bs lim V T K o w e w' := by subst h; exact ⟨hu, he, hc, hk⟩
theorem GotK.mk_up {α : Type} {C : Nat} {v : Value} {bs : List UInt8} {lim : Int} {V : α → Value} {T : Nat → Prop} {K : World → Prop} {o : Out α} {w : World} {e : Ending} {w' : World} {q er : Nat} (h : o = .up q er)
    (hu : Upd (fun k => k = C ∨ T k) w w') (he : e = .panicked [{ v := gave C, recovered := false }]) (hc : Cur w' C v bs q lim er) : GotK C v bs lim V T K o w e w' := by subst h; exact ⟨hu, he, hc⟩
theorem orL {C : Nat} {T : Nat → Prop} {a b : World} (h : Upd (· = C) a b) : Upd (fun k => k = C ∨ T k) a b := h.mono (fun _ _ h => .inl h)

theorem Byte_anyK {w : World} {C : Nat} {v : Value} {bs : List UInt8} {p : Nat} {lim : Int} (h : Cur w C v bs p lim 0) (hi : Inv bs.length lim p) (G : Nat) (cap : Array Value) (hG : Enters G)
    (F : UInt8 → Int → Prop) (T : Nat → Prop) (hT : Away T C v bs) (K : World → Prop)
    (hmay : ∀ (hp : p < bs.length) w1, Upd (· = C) w w1 → Cur w1 C v bs (p + 1) lim 0 → 0 ≤ rest lim (p + 1) → rest lim (p + 1) ≤ 1099511627776 →
      Calls Try.prog G (#[cb bs[p], .int .i64 (rest lim (p + 1))] ++ cap) w1 (YesK (F bs[p] (rest lim (p + 1))) T K w1)) :
    Calls Try.prog 17 #[.pointer (some ⟨C, 0, none⟩), .func (.func G) #[] cap] w (GotK C v bs lim cb T K (byteO bs lim F p) w) := by
  have HTT := hid hT
  have HG := hid hG
  have HM := hid hmay
  have HI := hid hi
  have H0 := hid h
  have ip := hi.place
  have il := hi.len
  have HR := hid (Rest_any h hi)
  obtain ⟨r, hr⟩ : ∃ r, rest lim p = r := ⟨_, rfl⟩
  rw [hr] at HR
  by_cases r0 : r = 0
  · have HO : Hid (byteO bs lim F p = .up p 2) := by show _ = _; unfold byteO; rw [if_pos (hr.trans r0)]
    subst r0
    clear hmay hG hi hT hr
    go_enter Try.func17, Try.ntmps17
    go_wp2_with fail
    refine (goOn_any H0.out).mono ?_
    rintro e w' ⟨rfl, rfl⟩
    have c1 := h.c1
    go_wp2_with fail
    refine HR.out.mono ?_
    rintro e w1 ⟨rfl, hn⟩
    have h1 := H0.out.new hn
    have HN := hid hn
    clear c1 hn
    go_wp2_with fail
    refine (giveUp_any h1 p 2).mono ?_
    rintro e w2 ⟨rfl, hc2, hu2⟩
    go_wp2_with fail
    exact ⟨rfl, GotK.mk_up HO.out (orL (new_upd HN.out hu2 H0.out.lt)) rfl hc2⟩
  · have hb : (r == 0) = false := by simpa using r0
    by_cases hp : p < bs.length
    · have hr' : rest lim p ≠ 0 := by rw [hr]; exact r0
      have hi1 := hi.next hr' hp
      have HI1 := hid hi1
      have HO : Hid ((F bs[p] (rest lim (p + 1)) → byteO bs lim F p = .ok bs[p] (p + 1)) ∧ (¬ F bs[p] (rest lim (p + 1)) → byteO bs lim F p = .up p 2)) := by
        constructor
        · intro hF; unfold byteO; rw [if_neg hr', dif_pos hp, if_pos hF]
        · intro hF; unfold byteO; rw [if_neg hr', dif_pos hp, if_neg hF]
      have HB := hid hi1.rest
      obtain ⟨r1, hr1⟩ : ∃ r1, rest lim (p + 1) = r1 := ⟨_, rfl⟩
      have HM' := hid (HM.out hp)
      rw [hr1] at HO HB HM'
      have HR1 := hid hr1
      obtain ⟨a, cp, rfl, hcap, hnil, hcell⟩ := h.rd
      obtain ⟨bb, oo, rfl, hce⟩ := hcell (by intro e; rw [e] at hp; simp at hp)
      have hcp := hce p hp
      generalize hx : bs[p] = x at *
      have HX := hid hx
      have HCP := hid hcp
      have hne : ((p : Int) == (bs.length : Int)) = false := by rw [beq_eq_false_iff_ne]; omega
      have hx256 := u8_lt x
      clear hmay hG hi hT hi1 hr hr1 hr' hcell hce hcp hx r0 HM
      go_enter Try.func17, Try.ntmps17
      go_wp2_with fail
      refine (goOn_any H0.out).mono ?_
      rintro e w' ⟨rfl, rfl⟩
      have c1 := h.c1
      go_wp2_with fail
      refine HR.out.mono ?_
      rintro e w1 ⟨rfl, hn⟩
      have h1 := H0.out.new hn
      have c0 := h1.c0
      have c1 := h1.c1
      have f1 := h1.f 1
      have ce := hn.cell HCP.out (fun h => h)
      unfold cb at ce
      have HN := hid hn
      have H1 := hid h1
      clear hn h1 h
      go_wp2_with fail
      obtain ⟨h2, u2⟩ := H1.out.at1 (p + 1)
      have u02 := hid (new_upd HN.out u2 H0.out.lt)
      have H2 := hid h2
      rw [show (((p + 1 : Nat)) : Int) = (p : Int) + 1 by omega] at h2 u2 u02 H2
      generalize hw2 : w1.setCell ⟨C, 1, none⟩ (.int .i64 ((p : Int) + 1)) = w2 at *
      have HRR := hid (Rest_any H2.out HI1.out)
      rw [HR1.out] at HRR
      clear c0 c1 f1 ce h2 u2 hw2
      refine HRR.out.mono ?_
      rintro e w3 ⟨rfl, hn3⟩
      have H3 := hid (H2.out.new hn3)
      have u03 := hid (u02.out.trans (New.upd hn3) (T := (· = C)) (fun _ _ h => h))
      have hM3 := HM'.out w3 u03.out H3.out HB.out.1 HB.out.2
      have HM3 := hid hM3
      clear hM3 hn3
      go_wp2_with fail
      refine upon_callv HG.out HM3.out ?_
      rintro e w4 ⟨b, rfl, hbF, hn4, hk4⟩
      have H4 := hid (H3.out.upd hn4 HTT.out.c HTT.out.v)
      have HK4 := hid hk4
      have u04 := hid ((orL (T := T) u03.out).trans hn4 (fun _ _ h => .inr h))
      have HBF := hid hbF
      clear hbF hn4 hk4
      cases b with
      | true =>
        go_wp2_with fail
        go_ret
        exact GotK.mk_ok (HO.out.1 (HBF.out.1 (by first | rfl | trivial))) u04.out rfl H4.out (HK4.out (by first | rfl | trivial))
      | false =>
        go_wp2_with fail
        refine (giveUp_any H4.out p 2).mono ?_
        rintro e w5 ⟨rfl, hc5, hu5⟩
        go_wp2_with fail
        exact ⟨rfl, GotK.mk_up (HO.out.2 (fun hF => by simpa using HBF.out.2 hF)) (u04.out.trans hu5 (fun _ _ h => .inl h)) rfl hc5⟩
    · have hpl : p = bs.length := by omega
      have HO : Hid (byteO bs lim F p = .up p 1) := by show _ = _; unfold byteO; rw [if_neg (by rw [hr]; exact r0), dif_neg hp]
      have heq : ((p : Int) == (bs.length : Int)) = true := by rw [beq_iff_eq]; omega
      obtain ⟨a, cp, rfl, hcap, hnil, hcell⟩ := h.rd
      clear hmay hG hi hT hr hcell r0 HM hp
      have HPL := hid hpl
      clear hpl
      go_enter Try.func17, Try.ntmps17
      go_wp2_with fail
      refine (goOn_any H0.out).mono ?_
      rintro e w' ⟨rfl, rfl⟩
      have c1 := h.c1
      go_wp2_with fail
      refine HR.out.mono ?_
      rintro e w1 ⟨rfl, hn⟩
      have h1 := H0.out.new hn
      have c0 := h1.c0
      have c1 := h1.c1
      have HN := hid hn
      have H1 := hid h1
      clear hn h1 h
      go_wp2_with fail
      refine (giveUp_any H1.out p 1).mono ?_
      rintro e w2 ⟨rfl, hc2, hu2⟩
      go_wp2_with fail
      exact ⟨rfl, GotK.mk_up HO.out (orL (new_upd HN.out hu2 H0.out.lt)) rfl hc2⟩
end Go.Proofs.Ytkfohickmdkplaa

namespace Go.Proofs.Utf

/-- how many bytes follow a first one, and from where to where the next of them may be -/
def cls (x : Nat) : Option (Nat × Nat × Nat) :=
  if x < 128 then some (0, 0, 0)
  else if x < 194 ∨ 244 < x then none
  else if x < 224 then some (1, 128, 191)
  else if x = 224 then some (2, 160, 191)
  else if x = 237 then some (2, 128, 159)
  else if x < 240 then some (2, 128, 191)
  else if x = 240 then some (3, 144, 191)
  else if x = 244 then some (3, 128, 143)
  else some (3, 128, 191)

/-- byte by byte: how many must come more, and whether it is a front -/
def run : List UInt8 → Nat → Nat → Nat → Nat × Bool
  | [], m, _, _ => (m, true)
  | x :: t, m, lo, hi =>
    if m = 0 then
      match cls x.toNat with
      | none => (0, false)
      | some (m', lo', hi') => run t m' lo' hi'
    else if x.toNat < lo ∨ hi < x.toNat then (0, false)
    else run t (m - 1) 128 191

/-- may these bytes follow? -/
def tail : List UInt8 → Nat → Nat → Nat → Bool
  | _, 0, _, _ => true
  | [], _ + 1, _, _ => true
  | y :: t, m + 1, lo, hi => decide (lo ≤ y.toNat ∧ y.toNat ≤ hi) && tail t m 128 191

/-- does a sign of a byte and so many more begin so? -/
def sign (s : List UInt8) (size : Nat) : Bool :=
  match s with
  | [] => false
  | x :: t => match cls x.toNat with
    | none => false
    | some (m, lo, hi) => decide (m = size) && tail t m lo hi

/-! ### the document's answer -/
def is (n : Nat) : Bool := decide (n ≤ 1114111 ∧ (n < 55296 ∨ 57343 < n))
def clip (low high least most : Nat) : Bool :=
  let low1 := if low < least then least else low
  let high1 := if most ≤ high then most - 1 else high
  let low2 := if 55296 ≤ low1 ∧ low1 ≤ 57343 then 57344 else low1
  decide (low2 ≤ high1)
/-- the least and the greatest number with so many groups of 6 bits more -/
def wide : Nat → Nat → Nat → Nat × Nat
  | 0, lo, hi => (lo, hi)
  | g + 1, lo, hi => wide g (64 * lo) (64 * hi + 63)
def go : List UInt8 → Nat → Nat → Nat → Nat → Bool
  | _, 0, n, least, most => decide (least ≤ n ∧ n < most) && is n
  | [], g + 1, n, least, most => clip (wide (g + 1) n n).1 (wide (g + 1) n n).2 least most
  | d :: t, g + 1, n, least, most => if d.toNat < 128 ∨ 191 < d.toNat then false else go t g (64 * n + (d.toNat - 128)) least most
def begins (s : List UInt8) (size head room least most : Nat) : Bool :=
  match s with
  | [] => false
  | x :: t => if x.toNat < head ∨ head + room ≤ x.toNat then false else go t size (x.toNat - head) least most

theorem u8_lt (x : UInt8) : x.toNat < 256 := x.toNat_lt

theorem cls_cases (x : Nat) : (x < 128 ∧ cls x = some (0, 0, 0)) ∨ ((128 ≤ x ∧ x < 194 ∨ 244 < x) ∧ cls x = none) ∨ ((194 ≤ x ∧ x < 224) ∧ cls x = some (1, 128, 191)) ∨
    (x = 224 ∧ cls x = some (2, 160, 191)) ∨ (x = 237 ∧ cls x = some (2, 128, 159)) ∨ ((225 ≤ x ∧ x < 240 ∧ x ≠ 237) ∧ cls x = some (2, 128, 191)) ∨
    (x = 240 ∧ cls x = some (3, 144, 191)) ∨ (x = 244 ∧ cls x = some (3, 128, 143)) ∨ ((241 ≤ x ∧ x < 244) ∧ cls x = some (3, 128, 191)) := by
  unfold cls
  repeat' split
  all_goals simp only [reduceCtorEq, and_true, and_false, or_false, false_or, Option.some.injEq, Prod.mk.injEq, Nat.reduceEqDiff]
  all_goals omega

theorem wide_eq : ∀ (g lo hi : Nat), wide g lo hi = (lo * 64 ^ g, (hi + 1) * 64 ^ g - 1)
  | 0, lo, hi => by simp [wide]
  | g + 1, lo, hi => by
    rw [wide, wide_eq g, Nat.pow_succ]
    congr 1
    · rw [Nat.mul_comm 64 lo, Nat.mul_assoc, Nat.mul_comm 64]
    · rw [show 64 * hi + 63 + 1 = (hi + 1) * 64 by omega, Nat.mul_assoc, Nat.mul_comm 64]

/-- all numbers that begin so are right; none is -/
def good (g n least most : Nat) : Prop := least ≤ n * 64 ^ g ∧ (n + 1) * 64 ^ g ≤ most ∧ most ≤ 1114112 ∧ ((n + 1) * 64 ^ g ≤ 55296 ∨ 57344 ≤ n * 64 ^ g)
def bad (g n least most : Nat) : Prop := 0 < most ∧ ((n + 1) * 64 ^ g ≤ least ∨ most ≤ n * 64 ^ g ∨ (55296 ≤ n * 64 ^ g ∧ (n + 1) * 64 ^ g ≤ 57344))

theorem step_pow (g n d : Nat) (hd : d ≤ 63) : n * 64 ^ (g + 1) ≤ (64 * n + d) * 64 ^ g ∧ (64 * n + d + 1) * 64 ^ g ≤ (n + 1) * 64 ^ (g + 1) := by
  have e1 : n * 64 ^ (g + 1) = 64 * n * 64 ^ g := by rw [Nat.pow_succ, Nat.mul_comm 64 n, Nat.mul_assoc, Nat.mul_comm 64]
  have e2 : (n + 1) * 64 ^ (g + 1) = (64 * n + 64) * 64 ^ g := by rw [Nat.pow_succ, show 64 * n + 64 = (n + 1) * 64 by omega, Nat.mul_assoc, Nat.mul_comm 64]
  rw [e1, e2]
  exact ⟨Nat.mul_le_mul_right _ (by omega), Nat.mul_le_mul_right _ (by omega)⟩
theorem good_step {g n d least most : Nat} (h : good (g + 1) n least most) (hd : d ≤ 63) : good g (64 * n + d) least most := by
  have := step_pow g n d hd
  unfold good at h ⊢
  omega
theorem bad_step {g n d least most : Nat} (h : bad (g + 1) n least most) (hd : d ≤ 63) : bad g (64 * n + d) least most := by
  have := step_pow g n d hd
  unfold bad at h ⊢
  omega
theorem clip_ab {a b c least most : Nat} (h1 : 0 < c) (h2 : b = a + c) (h : least ≤ a ∧ b ≤ most ∧ most ≤ 1114112 ∧ (b ≤ 55296 ∨ 57344 ≤ a)) : clip a (b - 1) least most = true := by
  unfold clip
  dsimp only
  rw [decide_eq_true_eq, if_neg (by omega : ¬ a < least), if_neg (by omega : ¬ most ≤ b - 1), if_neg (by omega)]
  omega
theorem clip_no {a b c least most : Nat} (h1 : 0 < c) (h2 : b = a + c) (h0 : 0 < most) (h : b ≤ least ∨ most ≤ a ∨ (55296 ≤ a ∧ b ≤ 57344)) : clip a (b - 1) least most = false := by
  unfold clip
  dsimp only
  rw [decide_eq_false_iff_not]
  repeat' split
  all_goals omega
theorem clip_good {g n least most : Nat} (h : good g n least most) : clip (wide g n n).1 (wide g n n).2 least most = true := by
  rw [wide_eq]
  exact clip_ab (Nat.pow_pos (by decide) : 0 < 64 ^ g) (by rw [Nat.add_mul, Nat.one_mul]) h
theorem clip_bad {g n least most : Nat} (h : bad g n least most) : clip (wide g n n).1 (wide g n n).2 least most = false := by
  rw [wide_eq]
  exact clip_no (Nat.pow_pos (by decide) : 0 < 64 ^ g) (by rw [Nat.add_mul, Nat.one_mul]) h.1 h.2

theorem go_good : ∀ (t : List UInt8) (g n least most : Nat), good g n least most → go t g n least most = tail t g 128 191
  | t, 0, n, least, most, h => by
    have e1 : go t 0 n least most = (decide (least ≤ n ∧ n < most) && is n) := by cases t <;> rfl
    have e2 : tail t 0 128 191 = true := by cases t <;> rfl
    unfold good at h
    rw [e1, e2]
    unfold is
    simp only [Nat.pow_zero, Nat.mul_one] at h
    rw [decide_eq_true (by omega : least ≤ n ∧ n < most), decide_eq_true (by omega)]
    rfl
  | [], g + 1, n, least, most, h => clip_good h
  | d :: t, g + 1, n, least, most, h => by
    rw [go, tail]
    by_cases hd : d.toNat < 128 ∨ 191 < d.toNat
    · rw [if_pos hd, decide_eq_false (by omega)]; rfl
    · rw [if_neg hd, decide_eq_true (by omega), go_good t g _ least most (good_step h (by omega))]; rfl
theorem go_bad : ∀ (t : List UInt8) (g n least most : Nat), bad g n least most → go t g n least most = false
  | t, 0, n, least, most, h => by
    have e1 : go t 0 n least most = (decide (least ≤ n ∧ n < most) && is n) := by cases t <;> rfl
    unfold bad at h
    rw [e1]
    unfold is
    simp only [Nat.pow_zero, Nat.mul_one] at h
    rw [Bool.and_eq_false_iff, decide_eq_false_iff_not, decide_eq_false_iff_not]
    omega
  | [], g + 1, n, least, most, h => clip_bad h
  | d :: t, g + 1, n, least, most, h => by
    rw [go]
    split
    · rfl
    · exact go_bad t g _ least most (bad_step h (by omega))

/-- what a first byte that has a class asks of the next -/
def ask (g n lo hi least most : Nat) : Prop :=
  128 ≤ lo ∧ hi ≤ 191 ∧ clip (n * 64 ^ (g + 1)) ((n + 1) * 64 ^ (g + 1) - 1) least most = true ∧
    ∀ d, 128 ≤ d → d ≤ 191 → (lo ≤ d ∧ d ≤ hi → good g (64 * n + (d - 128)) least most) ∧ (¬ (lo ≤ d ∧ d ≤ hi) → bad g (64 * n + (d - 128)) least most)
theorem go_ask {g n lo hi least most : Nat} (h : ask g n lo hi least most) : ∀ t, go t (g + 1) n least most = tail t (g + 1) lo hi := by
  obtain ⟨h1, h2, h3, h4⟩ := h
  intro t
  cases t with
  | nil =>
    rw [go, wide_eq]
    exact h3
  | cons d t =>
    rw [go, tail]
    by_cases hd : d.toNat < 128 ∨ 191 < d.toNat
    · rw [if_pos hd, decide_eq_false (by omega)]; rfl
    · rw [if_neg hd]
      by_cases hb : lo ≤ d.toNat ∧ d.toNat ≤ hi
      · rw [decide_eq_true hb, go_good _ _ _ _ _ ((h4 d.toNat (by omega) (by omega)).1 hb)]; rfl
      · rw [decide_eq_false hb, go_bad _ _ _ _ _ ((h4 d.toNat (by omega) (by omega)).2 hb)]; rfl

theorem sign_other {x : UInt8} {t : List UInt8} {m lo hi size : Nat} (e : cls x.toNat = some (m, lo, hi)) (h : m ≠ size) : sign (x :: t) size = false := by
  unfold sign; dsimp only; rw [e]; dsimp only; rw [decide_eq_false h]; rfl
theorem sign_none {x : UInt8} {t : List UInt8} {size : Nat} (e : cls x.toNat = none) : sign (x :: t) size = false := by
  unfold sign; dsimp only; rw [e]
theorem sign_this {x : UInt8} {t : List UInt8} {m lo hi : Nat} (e : cls x.toNat = some (m, lo, hi)) : sign (x :: t) m = tail t m lo hi := by
  unfold sign; dsimp only; rw [e]; dsimp only; rw [decide_eq_true rfl]; rfl
theorem begins_out {x : UInt8} {t : List UInt8} {size head room least most : Nat} (h : x.toNat < head ∨ head + room ≤ x.toNat) : begins (x :: t) size head room least most = false := by
  unfold begins; dsimp only; rw [if_pos h]
theorem begins_in {x : UInt8} {t : List UInt8} {size head room least most : Nat} (h : ¬ (x.toNat < head ∨ head + room ≤ x.toNat)) : begins (x :: t) size head room least most = go t size (x.toNat - head) least most := by
  unfold begins; dsimp only; rw [if_neg h]

theorem begins0 (s : List UInt8) : begins s 0 0 128 0 128 = sign s 0 := by
  cases s with
  | nil => rfl
  | cons x t =>
    rcases cls_cases x.toNat with ⟨h, e⟩ | ⟨h, e⟩ | ⟨h, e⟩ | ⟨h, e⟩ | ⟨h, e⟩ | ⟨h, e⟩ | ⟨h, e⟩ | ⟨h, e⟩ | ⟨h, e⟩
    · rw [sign_this e, begins_in (by omega), go_good]
      · cases t <;> rfl
      · unfold good; simp only [Nat.pow_zero]; omega
    · rw [sign_none e, begins_out (by omega)]
    all_goals rw [sign_other e (by decide), begins_out (by omega)]
theorem ask_mk {g n lo hi least most c : Nat} (hc : 64 ^ g = c) (hm : 0 < most) (h1 : 128 ≤ lo) (h2 : hi ≤ 191) (h3 : clip (n * (c * 64)) ((n + 1) * (c * 64) - 1) least most = true)
    (h4 : ∀ d, 128 ≤ d → d ≤ 191 → (lo ≤ d ∧ d ≤ hi → least ≤ (64 * n + (d - 128)) * c ∧ (64 * n + (d - 128) + 1) * c ≤ most ∧ most ≤ 1114112 ∧ ((64 * n + (d - 128) + 1) * c ≤ 55296 ∨ 57344 ≤ (64 * n + (d - 128)) * c)) ∧
      (¬ (lo ≤ d ∧ d ≤ hi) → (64 * n + (d - 128) + 1) * c ≤ least ∨ most ≤ (64 * n + (d - 128)) * c ∨ (55296 ≤ (64 * n + (d - 128)) * c ∧ (64 * n + (d - 128) + 1) * c ≤ 57344))) : ask g n lo hi least most := by
  refine ⟨h1, h2, ?_, ?_⟩
  · rw [Nat.pow_succ, hc]; exact h3
  · intro d d1 d2
    unfold good bad
    rw [hc]
    exact ⟨(h4 d d1 d2).1, fun h => ⟨hm, (h4 d d1 d2).2 h⟩⟩
theorem begins1 (s : List UInt8) : begins s 1 192 32 128 2048 = sign s 1 := by
  cases s with
  | nil => rfl
  | cons x t =>
    have hx := u8_lt x
    rcases cls_cases x.toNat with ⟨h, e⟩ | ⟨h, e⟩ | ⟨h, e⟩ | ⟨h, e⟩ | ⟨h, e⟩ | ⟨h, e⟩ | ⟨h, e⟩ | ⟨h, e⟩ | ⟨h, e⟩
    · rw [sign_other e (by decide), begins_out (by omega)]
    · rw [sign_none e]
      by_cases hr : x.toNat < 192 ∨ 192 + 32 ≤ x.toNat
      · rw [begins_out hr]
      · rw [begins_in hr]
        exact go_bad t 1 _ _ _ (by unfold bad; simp only [Nat.pow_one]; omega)
    · rw [sign_this e, begins_in (by omega)]
      refine go_ask (ask_mk (c := 1) rfl (by decide) (by omega) (by omega) ?_ ?_) t
      · unfold clip; dsimp only; rw [decide_eq_true_eq]; repeat' split
        all_goals omega
      · intro d d1 d2; constructor <;> intro _ <;> omega
    all_goals rw [sign_other e (by decide), begins_out (by omega)]
theorem begins2 (s : List UInt8) : begins s 2 224 16 2048 65536 = sign s 2 := by
  cases s with
  | nil => rfl
  | cons x t =>
    have hx := u8_lt x
    rcases cls_cases x.toNat with ⟨h, e⟩ | ⟨h, e⟩ | ⟨h, e⟩ | ⟨h, e⟩ | ⟨h, e⟩ | ⟨h, e⟩ | ⟨h, e⟩ | ⟨h, e⟩ | ⟨h, e⟩
    · rw [sign_other e (by decide), begins_out (by omega)]
    · rw [sign_none e, begins_out (by omega)]
    · rw [sign_other e (by decide), begins_out (by omega)]
    · rw [sign_this e, begins_in (by omega)]
      refine go_ask (ask_mk (c := 64) rfl (by decide) (by omega) (by omega) ?_ ?_) t
      · unfold clip; dsimp only; rw [decide_eq_true_eq]; repeat' split
        all_goals omega
      · intro d d1 d2; constructor <;> intro _ <;> omega
    · rw [sign_this e, begins_in (by omega)]
      refine go_ask (ask_mk (c := 64) rfl (by decide) (by omega) (by omega) ?_ ?_) t
      · unfold clip; dsimp only; rw [decide_eq_true_eq]; repeat' split
        all_goals omega
      · intro d d1 d2; constructor <;> intro _ <;> omega
    · rw [sign_this e, begins_in (by omega)]
      refine go_ask (ask_mk (c := 64) rfl (by decide) (by omega) (by omega) ?_ ?_) t
      · unfold clip; dsimp only; rw [decide_eq_true_eq]; repeat' split
        all_goals omega
      · intro d d1 d2; constructor <;> intro _ <;> omega
    all_goals rw [sign_other e (by decide), begins_out (by omega)]
theorem begins3 (s : List UInt8) : begins s 3 240 8 65536 1114112 = sign s 3 := by
  cases s with
  | nil => rfl
  | cons x t =>
    have hx := u8_lt x
    rcases cls_cases x.toNat with ⟨h, e⟩ | ⟨h, e⟩ | ⟨h, e⟩ | ⟨h, e⟩ | ⟨h, e⟩ | ⟨h, e⟩ | ⟨h, e⟩ | ⟨h, e⟩ | ⟨h, e⟩
    · rw [sign_other e (by decide), begins_out (by omega)]
    · rw [sign_none e]
      by_cases hr : x.toNat < 240 ∨ 240 + 8 ≤ x.toNat
      · rw [begins_out hr]
      · rw [begins_in hr]
        exact go_bad t 3 _ _ _ (by unfold bad; rw [show (64 : Nat) ^ 3 = 262144 by decide]; omega)
    · rw [sign_other e (by decide), begins_out (by omega)]
    · rw [sign_other e (by decide), begins_out (by omega)]
    · rw [sign_other e (by decide), begins_out (by omega)]
    · rw [sign_other e (by decide), begins_out (by omega)]
    all_goals
      rw [sign_this e, begins_in (by omega)]
      refine go_ask (ask_mk (c := 4096) rfl (by decide) (by omega) (by omega) ?_ ?_) t
      · unfold clip; dsimp only; rw [decide_eq_true_eq]; repeat' split
        all_goals omega
      · intro d d1 d2; constructor <;> intro _ <;> omega

/-! ### the whole -/
/-- sign by sign -/
def need (s : List UInt8) : Nat × Bool :=
  match s with
  | [] => (0, true)
  | x :: t => match cls x.toNat with
    | none => (0, false)
    | some (m, lo, hi) => if tail t m lo hi = true then (if t.length < m then (m - t.length, true) else need (t.drop m)) else (0, false)
termination_by s.length
decreasing_by simp; omega

theorem run0 (t : List UInt8) (lo hi : Nat) : run t 0 lo hi = run t 0 0 0 := by
  cases t with
  | nil => rfl
  | cons x t => rw [run, run, if_pos rfl, if_pos rfl]
theorem run_tail : ∀ (m : Nat) (t : List UInt8) (lo hi : Nat), run t m lo hi = if tail t m lo hi = true then (if t.length < m then (m - t.length, true) else run (t.drop m) 0 0 0) else (0, false)
  | 0, t, lo, hi => by
    have e : tail t 0 lo hi = true := by cases t <;> rfl
    rw [e, if_pos rfl, if_neg (Nat.not_lt_zero _), run0]; rfl
  | m + 1, [], lo, hi => by simp [run, tail]
  | m + 1, y :: t, lo, hi => by
    rw [run, tail, if_neg (Nat.succ_ne_zero m)]
    by_cases h : y.toNat < lo ∨ hi < y.toNat
    · rw [if_pos h, decide_eq_false (by omega)]; rfl
    · rw [if_neg h, decide_eq_true (by omega), Bool.true_and, Nat.add_sub_cancel, run_tail m t]
      simp only [List.length_cons, Nat.add_lt_add_iff_right, Nat.add_sub_add_right, List.drop_succ_cons]
theorem run_need : ∀ (k : Nat) (s : List UInt8), s.length ≤ k → run s 0 0 0 = need s
  | _, [], _ => by rw [need]; rfl
  | 0, _ :: _, h => by simp at h
  | k + 1, x :: t, h => by
    rw [run, need, if_pos rfl]
    cases cls x.toNat with
    | none => rfl
    | some p =>
      obtain ⟨m, lo, hi⟩ := p
      dsimp only
      rw [run_tail m t lo hi]
      split
      · split
        · rfl
        · exact run_need k _ (by simp at h ⊢; omega)
      · rfl
end Go.Proofs.Utf

namespace Go.Proofs.Ytkfohickmdkplaa
open Go.RowKit Go.Proofs.Own Go.Proofs.Utf
set_option maxRecDepth 100000
set_option maxHeartbeats 2000000

def firstV (x : Nat) : Nat × Nat × Nat × Bool := match cls x with
  | none => (0, 0, 0, false)
  | some (m, lo, hi) => (m, lo, hi, true)

theorem first_any (x : Nat) (hx : x < 256) (w : World) :
    Calls Try.prog 72 #[.int .u8 x] w fun e w' => e = .returned (.tuple #[.int .i64 (firstV x).1, .int .u8 (firstV x).2.1, .int .u8 (firstV x).2.2.1, .bool (firstV x).2.2.2]) ∧ w = w' := by
  rcases cls_cases x with ⟨h, e⟩ | ⟨h, e⟩ | ⟨h, e⟩ | ⟨h, e⟩ | ⟨h, e⟩ | ⟨h, e⟩ | ⟨h, e⟩ | ⟨h, e⟩ | ⟨h, e⟩
  all_goals
    have E0 : firstV x = (match cls x with | none => (0, 0, 0, false) | some (m, lo, hi) => (m, lo, hi, true)) := rfl
    rw [e] at E0
    simp only at E0
    have E := hid E0
    clear e E0
  all_goals first
    | (have e1 : ((x : Int) == 224) = false := beq_eq_false_iff_ne.mpr (by omega)
       have e2 : ((x : Int) == 237) = false := beq_eq_false_iff_ne.mpr (by omega)
       have e3 : ((x : Int) == 240) = false := beq_eq_false_iff_ne.mpr (by omega)
       have e4 : ((x : Int) == 244) = false := beq_eq_false_iff_ne.mpr (by omega)
       go_enter Try.func72, Try.ntmps72
       go_wp2_with fail)
    | (subst h
       go_enter Try.func72, Try.ntmps72
       go_wp2_with fail)
  all_goals
    refine bodyPost_ret (v := .tuple #[.int .i64 (firstV _).1, .int .u8 (firstV _).2.1, .int .u8 (firstV _).2.2.1, .bool (firstV _).2.2.2]) ?_ rfl ⟨rfl, rfl⟩
    rw [E.out]
    simp [results, Try.results72, go_sem]

theorem firstV_bd (x : Nat) : (firstV x).1 ≤ 3 ∧ (firstV x).2.1 < 256 ∧ (firstV x).2.2.1 < 256 := by
  unfold firstV
  rcases cls_cases x with ⟨h, e⟩ | ⟨h, e⟩ | ⟨h, e⟩ | ⟨h, e⟩ | ⟨h, e⟩ | ⟨h, e⟩ | ⟨h, e⟩ | ⟨h, e⟩ | ⟨h, e⟩ <;> rw [e] <;> simp
theorem run_first (x : UInt8) (t : List UInt8) (lo hi : Nat) : run (x :: t) 0 lo hi = if (firstV x.toNat).2.2.2 = true then run t (firstV x.toNat).1 (firstV x.toNat).2.1 (firstV x.toNat).2.2.1 else (0, false) := by
  rw [run, if_pos rfl]
  unfold firstV
  cases cls x.toNat <;> simp
theorem drop_at (s : ByteArray) (k : Nat) (h : k < s.size) : s.data.toList.drop k = s[k] :: s.data.toList.drop (k + 1) := by
  rw [List.drop_eq_getElem_cons (by simpa using h)]
  rfl

theorem Need_any (s : ByteArray) (w : World) (hs : s.size ≤ 9223372036854775807) :
    Calls Try.prog 59 #[.string s] w fun e w' => e = .returned (.tuple #[.int .i64 (need s.data.toList).1, .bool (need s.data.toList).2]) ∧ w = w' := by
  obtain ⟨r, hr⟩ : ∃ r, need s.data.toList = r := ⟨_, rfl⟩
  have hrun : run s.data.toList 0 0 0 = r := (run_need _ _ (Nat.le_refl _)).trans hr
  rw [hr]
  have HRUN := hid hrun
  clear hrun hr
  go_enter Try.func59, Try.ntmps59
  go_wp2_with fail
  go_step3
  go_wp2_with fail
  go_step3
  go_wp2_with fail
  go_loopg [4, 5, 6, 7, 12] s.size (fun k a b c d e wr => ∃ i m lo hi : Nat, k = s.size - i ∧ a = .int .i64 m ∧ b = .int .u8 lo ∧ c = .int .u8 hi ∧ d = .bool true ∧ e = .int .i64 i ∧ i ≤ s.size ∧ m ≤ 3 ∧ lo < 256 ∧ hi < 256 ∧ w = wr ∧ run (s.data.toList.drop i) m lo hi = r)
  case atStart => exact ⟨0, 0, 0, 0, by simp, rfl, rfl, rfl, rfl, rfl, Nat.zero_le _, by omega, by omega, by omega, rfl, HRUN.out⟩
  case round =>
    obtain ⟨i, m, lo, hi, rfl, rfl, rfl, rfl, rfl, rfl, hi1, hm, hlo, hhi, rfl, hrn⟩ := hrel
    by_cases hlt : i < s.size
    · rw [drop_at s i hlt] at hrn
      obtain ⟨x, hx⟩ : ∃ x, s[i] = x := ⟨_, rfl⟩
      have hx2 : s[i].toNat = x.toNat := by rw [hx]
      rw [hx] at hrn
      have hx3 := u8_lt x
      have HRN := hid hrn
      clear hrn hx
      by_cases hm0 : m = 0
      · subst hm0
        have HF := hid (first_any x.toNat hx3)
        have HRF := hid (run_first x (s.data.toList.drop (i + 1)) lo hi)
        have fb := firstV_bd x.toNat
        generalize firstV x.toNat = f at *
        obtain ⟨f1, f2, f3, f4⟩ := f
        simp only at fb HF HRF
        obtain ⟨fb1, fb2, fb3⟩ := fb
        go_wp2_with fail
        refine (HF.out _).mono ?_
        rintro e w' ⟨rfl, rfl⟩
        cases f4 with
        | true =>
          have HE : Hid (run (s.data.toList.drop (i + 1)) f1 f2 f3 = r) := by
            have := HRF.out
            rw [if_pos rfl] at this
            exact this.symm.trans HRN.out
          go_wp2_with fail
          go_roundg (s.size - (i + 1))
          case measure => omega
          case rel => exact ⟨i + 1, f1, f2, f3, rfl, rfl, rfl, rfl, rfl, by go_num, by omega, fb1, fb2, fb3, rfl, HE.out⟩
        | false =>
          have HE : Hid (r = (0, false)) := by
            have := HRF.out
            rw [if_neg (by decide)] at this
            exact HRN.out.symm.trans this
          go_wp2_with fail
          rw [Exit.noGoto_ret]
          go_ret2
          exact ⟨by rw [HE.out]; rfl, rfl⟩
      · have hm0' : ((m : Int) == 0) = false := beq_eq_false_iff_ne.mpr (by omega)
        by_cases hb : x.toNat < lo ∨ hi < x.toNat
        · have HE : Hid (r = (0, false)) := by
            have := HRN.out
            rw [run, if_neg hm0, if_pos hb] at this
            exact this.symm
          by_cases hb1 : x.toNat < lo
          · go_wp2_with fail
            rw [Exit.noGoto_ret]
            go_ret2
            exact ⟨by rw [HE.out]; rfl, rfl⟩
          · have hb2 : hi < x.toNat := by omega
            clear hb
            go_wp2_with fail
            rw [Exit.noGoto_ret]
            go_ret2
            exact ⟨by rw [HE.out]; rfl, rfl⟩
        · have HE : Hid (run (s.data.toList.drop (i + 1)) (m - 1) 128 191 = r) := by
            have := HRN.out
            rw [run, if_neg hm0, if_neg hb] at this
            exact this
          have hb1 : ¬ x.toNat < lo := fun h => hb (.inl h)
          have hb2 : ¬ hi < x.toNat := fun h => hb (.inr h)
          have hm1 : (m : Int) - 1 = ((m - 1 : Nat) : Int) := by omega
          clear hb
          go_wp2_with fail
          go_roundg (s.size - (i + 1))
          case measure => omega
          case rel => exact ⟨i + 1, m - 1, 128, 191, rfl, rfl, rfl, rfl, rfl, by go_num, by omega, by omega, by omega, by omega, rfl, HE.out⟩
    · have HE : Hid (r = (m, true)) := by
        have e : s.data.toList.drop i = [] := List.drop_eq_nil_of_le (by simp; omega)
        rw [e] at hrn
        exact hrn.symm
      clear hrn
      go_wp2_with fail
      rw [Exit.noGoto_ret]
      go_ret2
      exact ⟨by rw [HE.out]; rfl, rfl⟩

end Go.Proofs.Ytkfohickmdkplaa

namespace Go.Proofs.Ytkfohickmdkplaa
open Go.RowKit Go.Proofs.Own Go.Proofs.Span
set_option maxRecDepth 100000
set_option maxHeartbeats 800000

theorem own_any (mn mx : Int) (w : World) :
    Calls Try.prog 24 #[.agg #[.int .i64 mn, .int .i64 mx]] w fun e w' => e = .returned (.agg #[.int .i64 mn, .int .i64 mx]) ∧ New w w' := by
  go_enter Try.func24, Try.ntmps24
  go_wp2_with fail
  refine ret_agg rfl Try.underlying68 rfl (w.heap.size + 1) #[.int .i64 mn, .int .i64 mx] 68 (by kernel_rfl) rfl rfl ?_ ?_
  · repeat (first | (refine hp_new ?_; simp; done) | (refine hp_old ?_ ?_; · (simp <;> omega)))
  · exact ⟨rfl, by repeat (first | exact Upd.refl _ _ | apply Upd.alloc)⟩

theorem RdP.one (w : World) (a b : Nat) (t : TypeId) : RdP (w.alloc (.cells #[.int .u64 a, .int .u64 b] t)) (.slice (some ⟨w.heap.size, 0, none⟩) 1 1) [(a, b)] := by
  refine ⟨_, _, rfl, Nat.le_refl _, (fun h => by cases h), fun _ => ⟨_, _, rfl, fun i hi => ?_⟩⟩
  have : i = 0 := by simp at hi; exact hi
  subst this
  have hb : Blk (w.alloc (.cells #[.int .u64 a, .int .u64 b] t)) w.heap.size (.int .u64 a) (.int .u64 b) t := hp_new rfl
  exact ⟨hb.c0, hb.c1⟩

theorem look1 : ([(300, 310)].any fun x : Nat × Nat => Span.look x.1 x.2 44 7 1 32) = true := by decide +kernel
theorem look2 : ([(300, 310)].any fun x : Nat × Nat => Span.look x.1 x.2 0 7 1 32) = false := by decide +kernel
theorem counts1 : counts 1 5 0 0 7 = (2, 7) := by decide +kernel

theorem bd1 : ∀ i (h : i < [((300 : Nat), (310 : Nat))].length), ([((300 : Nat), (310 : Nat))][i]).1 < 18446744073709551616 ∧ ([((300 : Nat), (310 : Nat))][i]).2 < 18446744073709551616 := by
  intro i h
  match i, h with
  | 0, _ => exact ⟨(by decide : (300 : Nat) < 18446744073709551616), (by decide : (310 : Nat) < 18446744073709551616)⟩
theorem fits1_any (v : Value) (w : World) (h : RdP w v [(300, 310)]) :
    Calls Try.prog 48 #[v, .int .u64 44, .int .i64 7, .int .i64 1, .int .i64 32] w fun e w' => e = .returned (.bool true) ∧ New w w' := by
  have hc := Fits_any v [(300, 310)] 44 7 1 32 w h (by decide) (by decide) (by decide) (by decide) (by decide) bd1
  rw [look1] at hc
  exact hc
theorem fits2_any (v : Value) (w : World) (h : RdP w v [(300, 310)]) :
    Calls Try.prog 48 #[v, .int .u64 0, .int .i64 7, .int .i64 1, .int .i64 32] w fun e w' => e = .returned (.bool false) ∧ New w w' := by
  have hc := Fits_any v [(300, 310)] 0 7 1 32 w h (by decide) (by decide) (by decide) (by decide) (by decide) bd1
  rw [look2] at hc
  exact hc

end Go.Proofs.Ytkfohickmdkplaa

namespace Go.Proofs.Ytkfohickmdkplaa
open Go.RowKit Go.Proofs.Leb Go.Proofs.Own Go.Proofs.Cur Go.Proofs.Utf
set_option maxRecDepth 100000
set_option maxHeartbeats 4000000

/-- may a byte stand in a text: what of a sign was read, how many bytes may still come, this one among them -/
def mayN (k : Nat) (cur : List UInt8) (x : UInt8) (_ : Int) : Prop := (need (cur ++ [x])).2 = true ∧ (need (cur ++ [x])).1 < k
noncomputable def nameL (bs : List UInt8) (lim : Int) : Nat → List UInt8 → Nat → Out Unit
  | 0, _, p => .ok () p
  | k + 1, cur, p => (byteO bs lim (mayN (k + 1) cur) p).bind fun x q => nameL bs lim k (if (need (cur ++ [x])).1 = 0 then [] else cur ++ [x]) q
def sizesW (b1 b2 : Int) (r : Int) : List (Nat × Nat) := [((Span.sizes 0 1099511627776 b1 b2 r).1.toNat, (Span.sizes 0 1099511627776 b1 b2 r).2.toNat)]
noncomputable def nameO (bs : List UInt8) (lim b1 b2 : Int) (p : Nat) : Out (List UInt8) :=
  (uintO bs lim (inW (sizesW b1 b2)) p).bind fun ds q => (nameL bs lim (val ds) [] q).bind fun _ q' => .ok ((bs.drop q).take (val ds)) q'

theorem Name2_any (x : UInt8) (r : Int) (Bt Bs Bi Bn : Nat) (T : ByteArray) (s i n : Nat) (cur : List UInt8) (w : World) (hT : (T.extract s (i + 1)).data.toList = cur ++ [x]) (hsi : s ≤ i) (hi : i < T.size) (hin : i < n) (hn : n < 4294967296)
    (kt : w.cell? ⟨Bt, 0, none⟩ = some (.string T)) (ks : One1 w Bs (.int .i64 s)) (ki : One1 w Bi (.int .i64 i)) (kn : One1 w Bn (.int .i64 n)) (d1 : Bs ≠ Bi) (d2 : Bs ≠ Bn) :
    Calls Try.prog 58 #[cb x, .int .i64 r, .pointer (some ⟨Bt, 0, none⟩), .pointer (some ⟨Bs, 0, none⟩), .pointer (some ⟨Bi, 0, none⟩), .pointer (some ⟨Bn, 0, none⟩)] w
      (YesK (mayN (n - i) cur x r) (· = Bs) (fun w' => One1 w' Bs (.int .i64 (if (need (cur ++ [x])).1 = 0 then i + 1 else s : Nat))) w) := by
  have hsz : (T.extract s (i + 1)).size = i + 1 - s := by simp only [ByteArray.size_extract]; omega
  have HN := hid (fun w => Need_any (T.extract s (i + 1)) w (by rw [hsz]; omega))
  rw [hT] at HN
  obtain ⟨m, hm⟩ : ∃ m, (need (cur ++ [x])).1 = m := ⟨_, rfl⟩
  obtain ⟨ok, hok⟩ : ∃ ok, (need (cur ++ [x])).2 = ok := ⟨_, rfl⟩
  have hm3 : m ≤ 9223372036854775807 ∨ True := .inr trivial
  have HMY : Hid (mayN (n - i) cur x r ↔ ok = true ∧ m < n - i) := by show _ ↔ _; unfold mayN; rw [hm, hok]
  rw [hm, hok] at HN
  rw [hm]
  have ct := kt
  have cs := ks.c
  have ci := ki.c
  have cn := kn.c
  have fs := ks.f
  have KS := hid ks
  have KI := hid ki
  have KN := hid kn
  clear hT hsz hm hok hm3 ks ki kn kt
  unfold cb
  by_cases m0 : m = 0
  · have mb : ((m : Int) == 0) = true := by rw [beq_iff_eq]; omega
    have k1 : One1 (w.setCell ⟨Bs, 0, none⟩ (.int .i64 (i + 1 : Nat))) Bs (.int .i64 (i + 1 : Nat)) := KS.out.put
    have k2 := (KI.out.other (p := ⟨Bs, 0, none⟩) (v := .int .i64 (i + 1 : Nat)) (by simp; omega))
    have k3 := (KN.out.other (p := ⟨Bs, 0, none⟩) (v := .int .i64 (i + 1 : Nat)) (by simp; omega))
    have u1 : Upd (· = Bs) w (w.setCell ⟨Bs, 0, none⟩ (.int .i64 (i + 1 : Nat))) := updC _ _ _ _
    rw [show ((i + 1 : Nat) : Int) = (i : Int) + 1 by omega] at k1 k2 k3 u1
    obtain ⟨w1, hw1⟩ : ∃ w1, w.setCell ⟨Bs, 0, none⟩ (.int .i64 ((i : Int) + 1)) = w1 := ⟨_, rfl⟩
    rw [hw1] at k1 k2 k3 u1
    have ci2 := k2.c
    have cn2 := k3.c
    have K1 := hid k1
    have U1 := hid u1
    have HM0 := hid m0
    clear k1 k2 k3 u1 m0
    cases ok with
    | false =>
      go_enter Try.func58, Try.ntmps58
      go_wp2_with fail
      refine (HN.out _).mono ?_
      rintro e w' ⟨rfl, rfl⟩
      go_wp2_with fail
      go_ret
      exact ⟨false, rfl, by rw [HMY.out]; simp, U1.out, fun h => by cases h⟩
    | true =>
      have hlt : m < n - i := by have := HM0.out; omega
      all_goals
        first | (have hl : (m : Int) < (n : Int) - (i : Int) := by omega) | (have hl : ¬ (m : Int) < (n : Int) - (i : Int) := by omega)
        have HLT := hid hlt
        clear hlt
        go_enter Try.func58, Try.ntmps58
        go_wp2_with fail
        refine (HN.out _).mono ?_
        rintro e w' ⟨rfl, rfl⟩
        go_wp2_with fail
        go_ret
        refine ⟨_, rfl, ?_, U1.out, fun _ => ?_⟩
        all_goals first
          | exact K1.out
          | (rw [if_pos HM0.out]; exact K1.out)
          | (have h1 := HMY.out; have h2 := HLT.out; first | (rw [h1]; simp [h2]; done) | (rw [h1]; simp [h2]; omega) | (rw [h1]; simp; omega) | (rw [h1]; done))
  · have mb : ((m : Int) == 0) = false := by rw [beq_eq_false_iff_ne]; omega
    have HM0 := hid m0
    clear m0
    cases ok with
    | false =>
      go_enter Try.func58, Try.ntmps58
      go_wp2_with fail
      refine (HN.out _).mono ?_
      rintro e w' ⟨rfl, rfl⟩
      go_wp2_with fail
      go_ret
      exact ⟨false, rfl, by rw [HMY.out]; simp, Upd.refl _ _, fun h => by cases h⟩
    | true =>
      by_cases hlt : m < n - i
      all_goals
        first | (have hl : (m : Int) < (n : Int) - (i : Int) := by omega) | (have hl : ¬ (m : Int) < (n : Int) - (i : Int) := by omega)
        have HLT := hid hlt
        clear hlt
        go_enter Try.func58, Try.ntmps58
        go_wp2_with fail
        refine (HN.out _).mono ?_
        rintro e w' ⟨rfl, rfl⟩
        go_wp2_with fail
        go_ret
        refine ⟨_, rfl, ?_, Upd.refl _ _, fun _ => ?_⟩
        all_goals first
          | exact KS.out
          | (rw [if_neg HM0.out]; exact KS.out)
          | (have h1 := HMY.out; have h2 := HLT.out; first | (rw [h1]; simp [h2]; done) | (rw [h1]; simp [h2]; omega) | (rw [h1]; simp; omega) | (rw [h1]; done))

theorem between_small (lo hi : Int) : 0 ≤ (Span.between lo hi).1 ∧ (Span.between lo hi).1 ≤ 4294967295 ∧ 0 ≤ (Span.between lo hi).2 ∧ (Span.between lo hi).2 ≤ 4294967295 := by
  unfold Span.between
  by_cases h : min hi 4294967295 < max lo 0
  · rw [if_pos h]; decide
  · rw [if_neg h]; simp only; omega
theorem sizes_small (o1 o2 b1 b2 r : Int) : 0 ≤ (Span.sizes o1 o2 b1 b2 r).1 ∧ (Span.sizes o1 o2 b1 b2 r).1 ≤ 4294967295 ∧ 0 ≤ (Span.sizes o1 o2 b1 b2 r).2 ∧ (Span.sizes o1 o2 b1 b2 r).2 ≤ 4294967295 := by
  unfold Span.sizes
  by_cases h : 1099511627776 ≤ r
  · rw [if_pos h]
    by_cases h2 : 1099511627776 ≤ b2
    · rw [if_pos h2]; exact between_small _ _
    · rw [if_neg h2]; decide
  · rw [if_neg h]; exact between_small _ _
theorem counts_small (i1 i2 b1 b2 r : Int) : 0 ≤ (Span.counts i1 i2 b1 b2 r).1 ∧ (Span.counts i1 i2 b1 b2 r).1 ≤ 4294967295 ∧ 0 ≤ (Span.counts i1 i2 b1 b2 r).2 ∧ (Span.counts i1 i2 b1 b2 r).2 ≤ 4294967295 := by
  unfold Span.counts
  by_cases h : r < b1
  · rw [if_pos h]; decide
  · rw [if_neg h]; exact between_small _ _
theorem few1 (a b : Nat) (ha : a < 18446744073709551616) (hb : b < 18446744073709551616) : Few [(a, b)] := by
  refine ⟨by simp, fun i hi => ?_⟩
  have : i = 0 := by simp at hi; exact hi
  subst this
  exact ⟨ha, hb⟩
theorem Name1_any (Bb : Nat) (b1 b2 r : Int) (w : World) (hb : Span.right b1 b2) (h0 : 0 ≤ r) (h1 : r ≤ 1099511627776) (k0 : w.cell? ⟨Bb, 0, none⟩ = some (.int .i64 b1)) (k1 : w.cell? ⟨Bb, 1, none⟩ = some (.int .i64 b2)) :
    Wants 57 #[.pointer (some ⟨Bb, 0, none⟩)] (sizesW b1 b2) r w := by
  have HS := hid (fun w => Sizes_any 0 1099511627776 b1 b2 r w (by unfold Span.right; omega) hb h0 h1)
  have hbd := sizes_small 0 1099511627776 b1 b2 r
  obtain ⟨lo, hlo⟩ : ∃ lo : Nat, (Span.sizes 0 1099511627776 b1 b2 r).1 = lo := ⟨(Span.sizes 0 1099511627776 b1 b2 r).1.toNat, by omega⟩
  obtain ⟨hi, hhi⟩ : ∃ hi : Nat, (Span.sizes 0 1099511627776 b1 b2 r).2 = hi := ⟨(Span.sizes 0 1099511627776 b1 b2 r).2.toNat, by omega⟩
  have HW : Hid (sizesW b1 b2 r = [(lo, hi)]) := by show _ = _; unfold sizesW; rw [hlo, hhi, Int.toNat_natCast, Int.toNat_natCast]
  rw [hlo, hhi] at HS
  unfold Wants
  clear hlo hhi hbd hb
  go_enter Try.func57, Try.ntmps57
  go_wp2_with fail
  refine (HS.out _).mono ?_
  rintro e w1 ⟨rfl, hn⟩
  have HN := hid hn
  clear hn
  go_wp2_with fail
  go_ret
  refine ⟨_, rfl, ?_, ?_⟩
  · rw [HW.out]; exact RdP.one _ _ _ _
  · exact HN.out.alloc _
end Go.Proofs.Ytkfohickmdkplaa

namespace Go.Proofs.Cur
open Go.Proofs.Leb
/-- what digits are that have come out -/
theorem numO_ok {bs : List UInt8} {lim : Int} {may : List UInt8 → UInt8 → Int → Prop} : ∀ {n : Nat} {ds : List UInt8} {p : Nat} {ds' : List UInt8} {q : Nat}, numO bs lim may n ds p = .ok ds' q →
    ∃ a x, ds' = a ++ [x] ∧ x.toNat < 128 ∧ may a x (rest lim q) ∧ ds.length ≤ a.length ∧ a.length + 1 ≤ ds.length + n ∧ (Inv bs.length lim p → Inv bs.length lim q) ∧ p < q ∧ q ≤ bs.length
  | 0, _, _, _, _, h => by cases h
  | n + 1, ds, p, ds', q, h => by
    have hs : numO bs lim may (n + 1) ds p = (byteO bs lim (may ds) p).bind fun x q => if x.toNat < 128 then .ok (ds ++ [x]) q else numO bs lim may n (ds ++ [x]) q := rfl
    rw [hs] at h
    cases hb : byteO bs lim (may ds) p with
    | up q' er => rw [hb] at h; cases h
    | ok x q' =>
      rw [hb] at h
      simp only [Out.bind] at h
      unfold byteO at hb
      split at hb
      · cases hb
      · rename_i h0
        split at hb
        · rename_i h1
          split at hb
          · rename_i h2
            cases hb
            split at h
            · rename_i hx
              cases h
              exact ⟨ds, _, rfl, hx, h2, Nat.le_refl _, by omega, fun hi => hi.next h0 h1, by omega, by omega⟩
            · obtain ⟨a, y, e1, e2, e3, e4, e5, e6, e7, e8⟩ := numO_ok h
              simp only [List.length_append, List.length_cons, List.length_nil] at e4 e5
              exact ⟨a, y, e1, e2, e3, by omega, by omega, fun hi => e6 (hi.next h0 h1), by omega, e8⟩
          · cases hb
        · cases hb
theorem uintO_ok {bs : List UInt8} {lim : Int} {S : Int → Nat → Prop} {p q : Nat} {ds : List UInt8} (h : uintO bs lim S p = .ok ds q) :
    S (rest lim q) (val ds) ∧ val ds < 4294967296 ∧ (Inv bs.length lim p → Inv bs.length lim q) ∧ p < q ∧ q ≤ bs.length := by
  obtain ⟨a, x, rfl, hx, hm, -, hl, hi, h1, h2⟩ := numO_ok h
  unfold mayU comes at hm
  rw [if_pos hx] at hm
  have hlt : val (a ++ [x]) < 128 ^ (a.length + 1) := by have := val_lt (a ++ [x]); simpa using this
  have := (fits_zero hlt).1 hm
  exact ⟨this.1, this.2, hi, h1, h2⟩
end Go.Proofs.Cur
namespace Go.Proofs.Ytkfohickmdkplaa
open Go.RowKit Go.Proofs.Leb Go.Proofs.Own Go.Proofs.Cur Go.Proofs.Utf
set_option maxRecDepth 100000
set_option maxHeartbeats 4000000

theorem sub2 (T : ByteArray) (s e : Nat) : (T.extract s e).data.toList = (T.data.toList.drop s).take (e - s) := by
  simp only [ByteArray.data_extract, Array.toList_extract, List.extract_eq_take_drop]

theorem nameL_step {bs : List UInt8} {lim : Int} {k : Nat} {cur : List UInt8} {p : Nat} :
    nameL bs lim (k + 1) cur p = (byteO bs lim (mayN (k + 1) cur) p).bind fun x q => nameL bs lim k (if (need (cur ++ [x])).1 = 0 then [] else cur ++ [x]) q := rfl
theorem text_next {bs TL : List UInt8} {q m i s : Nat} {x : UInt8} (hT : (bs.drop q).take m = TL) (hs : s ≤ i) (hi : i < m) (hx : bs[q + i]? = some x) : (TL.drop s).take (i + 1 - s) = (TL.drop s).take (i - s) ++ [x] := by
  rw [show i + 1 - s = (i - s) + 1 by omega, List.take_add_one]
  congr 1
  rw [List.getElem?_drop, show s + (i - s) = i by omega, ← hT, List.getElem?_take, if_pos hi, List.getElem?_drop, hx]
  rfl
structure NInv (C : Nat) (v : Value) (bs : List UInt8) (lim : Int) (O : Out Unit) (w : World) (B Bs n q : Nat) (T : ByteArray) (i : Nat) (wr : World) : Prop where
  up : Upd (· = C) w wr
  cur : Cur wr C v bs (q + i) lim 0
  inv : Inv bs.length lim (q + i)
  le : i ≤ n
  kn : One1 wr B (.int .i64 n)
  kt : One1 wr (B + 1) (.string T)
  st : ∃ s, s ≤ i ∧ One1 wr Bs (.int .i64 s) ∧ nameL bs lim (n - i) ((T.data.toList.drop s).take (i - s)) (q + i) = O

theorem Name_any {w : World} {C : Nat} {v : Value} {bs : List UInt8} {p : Nat} {lim : Int} (h : Cur w C v bs p lim 0) (hi : Inv bs.length lim p) (b1 b2 : Int) (hb : Span.right b1 b2) :
    Calls Try.prog 26 #[.pointer (some ⟨C, 0, none⟩), .agg #[.int .i64 b1, .int .i64 b2]] w (Got C v bs lim strV (nameO bs lim b1 b2 p) w) := by
  have HI := hid hi
  have H0 := hid h
  have hC := h.lt
  obtain ⟨O, hO⟩ : ∃ O, nameO bs lim b1 b2 p = O := ⟨_, rfl⟩
  have HO := hid hO
  rw [hO]
  have hb0 : Blk (w.alloc (.cells #[.int .i64 b1, .int .i64 b2] 68)) w.heap.size (.int .i64 b1) (.int .i64 b2) 68 := Blk.mk
  have hn0 : New w (w.alloc (.cells #[.int .i64 b1, .int .i64 b2] 68)) := (Upd.refl _ _).alloc _
  have hU := Uint_any (h.new hn0) hi 57 #[.pointer (some ⟨w.heap.size, 0, none⟩)] (fun _ _ => rfl) (sizesW b1 b2)
    (fun r' w1 hu h0 h1 => Name1_any w.heap.size b1 b2 r' w1 hb h0 h1 (hu.cell hb0.c0 (by simp; omega)) (hu.cell hb0.c1 (by simp; omega)))
    (fun r => few1 _ _ (by have := sizes_small 0 1099511627776 b1 b2 r; omega) (by have := sizes_small 0 1099511627776 b1 b2 r; omega))
  have HU := hid hU
  have HN0 := hid hn0
  have hmf : ∀ (fn : Fn) (first cap : Array Value) (w : World), (Instr.makeFunc fn first cap).run Try.prog w = .ok (.func fn first cap) w := fun _ _ _ _ => rfl
  clear hi h hO hU hb0 hn0
  go_enter Try.func26, Try.ntmps26
  go_wp2_with fail
  refine HU.out.mono ?_
  rintro e w1 ⟨hu1, hm1⟩
  have U1 := hid (new_upd HN0.out hu1 hC)
  cases ho : uintO bs lim (inW (sizesW b1 b2)) p with
  | up q er =>
    rw [ho] at hm1
    obtain ⟨rfl, hc1⟩ := hm1
    have HO1 : Hid (O = .up q er) := by show _ = _; rw [← HO.out]; unfold nameO; rw [ho]; rfl
    have C1 := hid hc1
    clear ho hc1 hu1
    go_wp2_with fail
    exact ⟨rfl, Got.mk_up HO1.out U1.out rfl C1.out⟩
  | ok ds q =>
    rw [ho] at hm1
    obtain ⟨rfl, hc1⟩ := hm1
    obtain ⟨-, hlt, hiq, -, -⟩ := uintO_ok ho
    have hiq := hiq HI.out
    obtain ⟨n, hn⟩ : ∃ n, val ds = n := ⟨_, rfl⟩
    rw [hn] at hlt
    obtain ⟨L, hL⟩ : ∃ L, nameL bs lim n [] q = L := ⟨_, rfl⟩
    have HO1 : Hid (O = L.bind fun _ q' => .ok ((bs.drop q).take n) q') := by
      show _ = _; rw [← HO.out]; unfold nameO; rw [ho]; simp only [Out.bind]; rw [hn, hL]
    have HV : UintV ds = .int .u32 n := by unfold UintV; rw [hn, Nat.mod_eq_of_lt hlt]
    rw [HV]
    have HLT := hid hlt
    have HIQ := hid hiq
    have HL := hid hL
    have C1 := hid hc1
    clear ho hc1 hu1 hiq hn hL HV
    obtain ⟨av, cv, rfl⟩ := H0.out.rd.shape
    go_wp2_with fail
    obtain ⟨m, hm⟩ : ∃ m, min n (bs.length - q) = m := ⟨_, rfl⟩
    obtain ⟨qn, hqn⟩ : ∃ qn, q + n = qn := ⟨_, rfl⟩
    obtain ⟨M, hM⟩ : ∃ M, q + m = M := ⟨_, rfl⟩
    have hql := HIQ.out.place
    have hbl := HIQ.out.len
    obtain ⟨v', hs, hrd, -⟩ := slice_rd C1.out.rd q m (by omega)
    rw [hM] at hs
    obtain ⟨T, hT⟩ : ∃ T : List UInt8, (bs.drop q).take m = T := ⟨_, rfl⟩
    rw [hT] at hrd
    have hn2 : New w1 (w1.alloc (.cells #[.int .i64 n] 3)) := (Upd.refl _ _).alloc _
    have k2 : One1 (w1.alloc (.cells #[.int .i64 n] 3)) w1.heap.size (.int .i64 n) := .mk rfl
    have C2 := hid (C1.out.new hn2)
    have hr2 := hrd.new hn2
    have U2 := hid (U1.out.thenNew hn2)
    obtain ⟨B, hB⟩ : ∃ B, w1.heap.size = B := ⟨_, rfl⟩
    have hBw : w.heap.size ≤ B := by have := U1.out.size; omega
    have hCB : C < B := by omega
    have hz2 : (w1.alloc (.cells #[.int .i64 n] 3)).heap.size = B + 1 := by simp [hB]
    rw [hB] at k2
    rw [hB]
    generalize w1.alloc (.cells #[.int .i64 n] 3) = w2 at *
    have K2 := hid k2
    have HS := hid hs
    have HRD := hid hr2
    have HTT := hid hT
    have HMM := hid hm
    have HM2 := hid hM
    have HZ2 := hid hz2
    have e26 : IntKind.i64.wrap ((q : Int) + (n : Int)) = (qn : Int) := by rw [IntWalk.i64_in _ (by omega)]; omega
    have e32 : (if bs.length < qn then (bs.length : Int) else (qn : Int)) = (M : Int) := by split <;> omega
    have E26 := hid e26
    have E32 := hid e32
    clear hn2 k2 hr2 hrd hs hT hm hM hz2 hqn e26 e32
    have hn : New w2 w2.drew := (Upd.refl _ _).drew
    go_cut [6] (fun a wx => a = .pointer (some ⟨B + 1, 0, none⟩) ∧ New w2 wx ∧ One1 wx (B + 1) (strV T))
    case first =>
      have e26 := E26.out
      have e32 := E32.out
      have hzz : w2.drew.heap.size = B + 1 := HZ2.out
      refine wp_region_noPanic ?_
      refine wp_region_held_drew (S := (New w2)) (by kernel_rfl) (by first | exact hn | exact (Upd.refl _ _).drew | exact Upd.drew (by assumption)) (fun hn => ?_)
      generalize w2.drew = wd at *
      refine wpAnyH_take (i := 0) (oi := { dst := some 13, op := Op.move (Operand.tmp 0), type := 29, pos := "cursor.go:127", after := #[], guard := none }) (v := ?v15x1) rfl (by kernel_rfl) (by kernel_rfl) (by kernel_rfl) (fun _ _ _ h => h) (Or.inl ⟨by rfl, ?y15x1⟩) hn ?r15x1
      case y15x1 => (intro wS hS; (try go_simp); (try with_reducible rfl))
      try simp only [Act.put, List.setIfInBounds_toArray, List.set_cons_zero, List.set_cons_succ]
      refine wpAnyH_take (i := 1) (oi := { dst := some 14, op := Op.nilCheck (Operand.tmp 13), type := 0, pos := "cursor.go:127", after := #[{ on := 0, ground := Ground.data }], guard := none }) (v := ?v15x2) rfl (by kernel_rfl) (by kernel_rfl) (by kernel_rfl) (fun _ _ _ h => h) (Or.inl ⟨by rfl, ?y15x2⟩) hn ?r15x2
      case y15x2 => (intro wS hS; (try go_simp); (try with_reducible rfl))
      try simp only [Act.put, List.setIfInBounds_toArray, List.set_cons_zero, List.set_cons_succ]
      refine wpAnyH_take (i := 2) (oi := { dst := some 15, op := Op.fieldAddr 54 (Operand.tmp 14) 0, type := 0, pos := "cursor.go:127", after := #[{ on := 1, ground := Ground.data }], guard := none }) (v := ?v15x3) rfl (by kernel_rfl) (by kernel_rfl) (by kernel_rfl) (fun _ _ _ h => h) (Or.inl ⟨by rfl, ?y15x3⟩) hn ?r15x3
      case y15x3 => (intro wS hS; (try go_simp); (try with_reducible rfl))
      try simp only [Act.put, List.setIfInBounds_toArray, List.set_cons_zero, List.set_cons_succ]
      refine wpAnyH_take (i := 3) (oi := { dst := some 16, op := Op.load 22 (Operand.tmp 15), type := 22, pos := "cursor.go:127", after := #[{ on := 2, ground := Ground.data }], guard := none }) (v := ?v15x4) rfl (by kernel_rfl) (by kernel_rfl) (by kernel_rfl) (fun _ _ _ h => h) (Or.inl ⟨by rfl, ?y15x4⟩) hn ?r15x4
      case y15x4 => (intro wS hS; have c := hS.cell C2.out.c0 (fun h => h); (try go_simp); (try with_reducible rfl))
      try simp only [Act.put, List.setIfInBounds_toArray, List.set_cons_zero, List.set_cons_succ]
      refine wpAnyH_take (i := 4) (oi := { dst := some 17, op := Op.move (Operand.tmp 0), type := 29, pos := "cursor.go:127", after := #[], guard := none }) (v := ?v15x5) rfl (by kernel_rfl) (by kernel_rfl) (by kernel_rfl) (fun _ _ _ h => h) (Or.inl ⟨by rfl, ?y15x5⟩) hn ?r15x5
      case y15x5 => (intro wS hS; (try go_simp); (try with_reducible rfl))
      try simp only [Act.put, List.setIfInBounds_toArray, List.set_cons_zero, List.set_cons_succ]
      refine wpAnyH_take (i := 5) (oi := { dst := some 18, op := Op.nilCheck (Operand.tmp 17), type := 0, pos := "cursor.go:127", after := #[{ on := 4, ground := Ground.data }], guard := none }) (v := ?v15x6) rfl (by kernel_rfl) (by kernel_rfl) (by kernel_rfl) (fun _ _ _ h => h) (Or.inl ⟨by rfl, ?y15x6⟩) hn ?r15x6
      case y15x6 => (intro wS hS; (try go_simp); (try with_reducible rfl))
      try simp only [Act.put, List.setIfInBounds_toArray, List.set_cons_zero, List.set_cons_succ]
      refine wpAnyH_take (i := 6) (oi := { dst := some 19, op := Op.fieldAddr 54 (Operand.tmp 18) 1, type := 0, pos := "cursor.go:127", after := #[{ on := 5, ground := Ground.data }], guard := none }) (v := ?v15x7) rfl (by kernel_rfl) (by kernel_rfl) (by kernel_rfl) (fun _ _ _ h => h) (Or.inl ⟨by rfl, ?y15x7⟩) hn ?r15x7
      case y15x7 => (intro wS hS; (try go_simp); (try with_reducible rfl))
      try simp only [Act.put, List.setIfInBounds_toArray, List.set_cons_zero, List.set_cons_succ]
      refine wpAnyH_take (i := 7) (oi := { dst := some 20, op := Op.load 3 (Operand.tmp 19), type := 3, pos := "cursor.go:127", after := #[{ on := 6, ground := Ground.data }], guard := none }) (v := ?v15x8) rfl (by kernel_rfl) (by kernel_rfl) (by kernel_rfl) (fun _ _ _ h => h) (Or.inl ⟨by rfl, ?y15x8⟩) hn ?r15x8
      case y15x8 => (intro wS hS; have c := hS.cell C2.out.c1 (fun h => h); (try go_simp); (try with_reducible rfl))
      try simp only [Act.put, List.setIfInBounds_toArray, List.set_cons_zero, List.set_cons_succ]
      refine wpAnyH_take (i := 8) (oi := { dst := some 21, op := Op.move (Operand.tmp 0), type := 29, pos := "cursor.go:127", after := #[], guard := none }) (v := ?v15x9) rfl (by kernel_rfl) (by kernel_rfl) (by kernel_rfl) (fun _ _ _ h => h) (Or.inl ⟨by rfl, ?y15x9⟩) hn ?r15x9
      case y15x9 => (intro wS hS; (try go_simp); (try with_reducible rfl))
      try simp only [Act.put, List.setIfInBounds_toArray, List.set_cons_zero, List.set_cons_succ]
      refine wpAnyH_take (i := 9) (oi := { dst := some 22, op := Op.nilCheck (Operand.tmp 21), type := 0, pos := "cursor.go:127", after := #[{ on := 8, ground := Ground.data }], guard := none }) (v := ?v15x10) rfl (by kernel_rfl) (by kernel_rfl) (by kernel_rfl) (fun _ _ _ h => h) (Or.inl ⟨by rfl, ?y15x10⟩) hn ?r15x10
      case y15x10 => (intro wS hS; (try go_simp); (try with_reducible rfl))
      try simp only [Act.put, List.setIfInBounds_toArray, List.set_cons_zero, List.set_cons_succ]
      refine wpAnyH_take (i := 10) (oi := { dst := some 23, op := Op.fieldAddr 54 (Operand.tmp 22) 1, type := 0, pos := "cursor.go:127", after := #[{ on := 9, ground := Ground.data }], guard := none }) (v := ?v15x11) rfl (by kernel_rfl) (by kernel_rfl) (by kernel_rfl) (fun _ _ _ h => h) (Or.inl ⟨by rfl, ?y15x11⟩) hn ?r15x11
      case y15x11 => (intro wS hS; (try go_simp); (try with_reducible rfl))
      try simp only [Act.put, List.setIfInBounds_toArray, List.set_cons_zero, List.set_cons_succ]
      refine wpAnyH_take (i := 11) (oi := { dst := some 24, op := Op.load 3 (Operand.tmp 23), type := 3, pos := "cursor.go:127", after := #[{ on := 10, ground := Ground.data }], guard := none }) (v := ?v15x12) rfl (by kernel_rfl) (by kernel_rfl) (by kernel_rfl) (fun _ _ _ h => h) (Or.inl ⟨by rfl, ?y15x12⟩) hn ?r15x12
      case y15x12 => (intro wS hS; have c := hS.cell C2.out.c1 (fun h => h); (try go_simp); (try with_reducible rfl))
      try simp only [Act.put, List.setIfInBounds_toArray, List.set_cons_zero, List.set_cons_succ]
      refine wpAnyH_take (i := 12) (oi := { dst := some 25, op := Op.load 3 (Operand.tmp 5), type := 3, pos := "cursor.go:127", after := #[], guard := none }) (v := ?v15x13) rfl (by kernel_rfl) (by kernel_rfl) (by kernel_rfl) (fun _ _ _ h => h) (Or.inl ⟨by rfl, ?y15x13⟩) hn ?r15x13
      case y15x13 => (intro wS hS; have c := hS.cell K2.out.c (fun h => h); (try go_simp); (try with_reducible rfl))
      try simp only [Act.put, List.setIfInBounds_toArray, List.set_cons_zero, List.set_cons_succ]
      refine wpAnyH_take (i := 13) (oi := { dst := some 26, op := Op.binOp BinOp.add 3 (Operand.tmp 24) (Operand.tmp 25) 3, type := 3, pos := "cursor.go:127", after := #[{ on := 11, ground := Ground.data }, { on := 12, ground := Ground.data }], guard := none }) (v := ?v15x14) rfl (by kernel_rfl) (by kernel_rfl) (by kernel_rfl) (fun _ _ _ h => h) (Or.inl ⟨by rfl, ?y15x14⟩) hn ?r15x14
      case y15x14 => (intro wS hS; (try go_simp); (try with_reducible rfl))
      try simp only [Act.put, List.setIfInBounds_toArray, List.set_cons_zero, List.set_cons_succ]
      refine wpAnyH_take (i := 14) (oi := { dst := some 27, op := Op.move (Operand.tmp 0), type := 29, pos := "cursor.go:127", after := #[], guard := none }) (v := ?v15x15) rfl (by kernel_rfl) (by kernel_rfl) (by kernel_rfl) (fun _ _ _ h => h) (Or.inl ⟨by rfl, ?y15x15⟩) hn ?r15x15
      case y15x15 => (intro wS hS; (try go_simp); (try with_reducible rfl))
      try simp only [Act.put, List.setIfInBounds_toArray, List.set_cons_zero, List.set_cons_succ]
      refine wpAnyH_take (i := 15) (oi := { dst := some 28, op := Op.nilCheck (Operand.tmp 27), type := 0, pos := "cursor.go:127", after := #[{ on := 14, ground := Ground.data }], guard := none }) (v := ?v15x16) rfl (by kernel_rfl) (by kernel_rfl) (by kernel_rfl) (fun _ _ _ h => h) (Or.inl ⟨by rfl, ?y15x16⟩) hn ?r15x16
      case y15x16 => (intro wS hS; (try go_simp); (try with_reducible rfl))
      try simp only [Act.put, List.setIfInBounds_toArray, List.set_cons_zero, List.set_cons_succ]
      refine wpAnyH_take (i := 16) (oi := { dst := some 29, op := Op.fieldAddr 54 (Operand.tmp 28) 0, type := 0, pos := "cursor.go:127", after := #[{ on := 15, ground := Ground.data }], guard := none }) (v := ?v15x17) rfl (by kernel_rfl) (by kernel_rfl) (by kernel_rfl) (fun _ _ _ h => h) (Or.inl ⟨by rfl, ?y15x17⟩) hn ?r15x17
      case y15x17 => (intro wS hS; (try go_simp); (try with_reducible rfl))
      try simp only [Act.put, List.setIfInBounds_toArray, List.set_cons_zero, List.set_cons_succ]
      refine wpAnyH_take (i := 17) (oi := { dst := some 30, op := Op.load 22 (Operand.tmp 29), type := 22, pos := "cursor.go:127", after := #[{ on := 16, ground := Ground.data }], guard := none }) (v := ?v15x18) rfl (by kernel_rfl) (by kernel_rfl) (by kernel_rfl) (fun _ _ _ h => h) (Or.inl ⟨by rfl, ?y15x18⟩) hn ?r15x18
      case y15x18 => (intro wS hS; have c := hS.cell C2.out.c0 (fun h => h); (try go_simp); (try with_reducible rfl))
      try simp only [Act.put, List.setIfInBounds_toArray, List.set_cons_zero, List.set_cons_succ]
      refine wpAnyH_take (i := 18) (oi := { dst := some 31, op := Op.call { callee := Callee.builtin Builtin.len, args := #[Operand.tmp 30], argTypes := #[22] }, type := 3, pos := "cursor.go:127", after := #[{ on := 17, ground := Ground.data }], guard := none }) (v := ?v15x19) rfl (by kernel_rfl) (by kernel_rfl) (by kernel_rfl) (fun _ _ _ h => h) (Or.inl ⟨by rfl, ?y15x19⟩) hn ?r15x19
      case y15x19 => (intro wS hS; (try go_simp); (try with_reducible rfl))
      try simp only [Act.put, List.setIfInBounds_toArray, List.set_cons_zero, List.set_cons_succ]
      refine wpAnyH_take (i := 19) (oi := { dst := some 32, op := Op.call { callee := Callee.builtin Builtin.min, args := #[Operand.tmp 26, Operand.tmp 31], argTypes := #[3, 3] }, type := 3, pos := "cursor.go:127", after := #[{ on := 13, ground := Ground.data }, { on := 18, ground := Ground.data }], guard := none }) (v := ?v15x20) rfl (by kernel_rfl) (by kernel_rfl) (by kernel_rfl) (fun _ _ _ h => h) (Or.inl ⟨by rfl, ?y15x20⟩) hn ?r15x20
      case y15x20 => (intro wS hS; (try go_simp); (try with_reducible rfl))
      try simp only [Act.put, List.setIfInBounds_toArray, List.set_cons_zero, List.set_cons_succ]
      refine wpAnyH_take (i := 20) (oi := { dst := some 33, op := Op.slice 22 (Operand.tmp 16) (some (Operand.tmp 20)) (some (Operand.tmp 32)) none, type := 22, pos := "cursor.go:127", after := #[{ on := 3, ground := Ground.data }, { on := 7, ground := Ground.data }, { on := 19, ground := Ground.data }], guard := none }) (v := ?v15x21) rfl (by kernel_rfl) (by kernel_rfl) (by kernel_rfl) (fun _ _ _ h => h) (Or.inl ⟨by rfl, ?y15x21⟩) hn ?r15x21
      case y15x21 => (intro wS hS; rw [exec_slice (v := .slice av bs.length cv) (l := .int .i64 q) (h := .int .i64 M) rfl rfl rfl rfl (HS.out _)]; (try go_simp); (try with_reducible rfl))
      try simp only [Act.put, List.setIfInBounds_toArray, List.set_cons_zero, List.set_cons_succ]
      refine wpAnyH_take (i := 21) (oi := { dst := some 34, op := Op.convert 22 9 (Operand.tmp 33), type := 9, pos := "cursor.go:127", after := #[{ on := 20, ground := Ground.data }], guard := none }) (v := ?v15x22) rfl (by kernel_rfl) (by kernel_rfl) (by kernel_rfl) (fun _ _ _ h => h) (Or.inl ⟨by rfl, ?y15x22⟩) hn ?r15x22
      case y15x22 => (intro wS hS; rw [exec_conv (v := v') rfl rfl (HRD.out.new hS).str]; (try go_simp); (try with_reducible rfl))
      try simp only [Act.put, List.setIfInBounds_toArray, List.set_cons_zero, List.set_cons_succ]
      refine wpAnyH_ready (rs := [22]) (by kernel_rfl) (by simp) ?_
      refine AllReadyH.cons (o := { dst := some 6, op := Op.alloc 9, type := 0, pos := "cursor.go:127", after := #[], guard := none }) rfl (fun K hK => ?_) AllReadyH.nil
      go_simp
      refine alloc1Step hn ?_
      intro W2 hu hn hz8
      rw [hzz] at hz8
      refine hK.out _ _ (by first | exact hn | exact Upd.alloc hn _) (fun hn => ?_)
      clear hK K
      try simp only [Act.put, List.setIfInBounds_toArray, List.set_cons_zero, List.set_cons_succ]
      refine wpAnyH_ready (rs := [23]) (by kernel_rfl) (by simp) ?_
      refine AllReadyH.cons (o := { dst := none, op := Op.store 9 (Operand.tmp 6) (Operand.tmp 34), type := 0, pos := "cursor.go:127", after := #[{ on := 22, ground := Ground.data }, { on := 21, ground := Ground.data }, { on := 0, ground := Ground.phase }, { on := 1, ground := Ground.phase }, { on := 2, ground := Ground.phase }, { on := 3, ground := Ground.phase }, { on := 4, ground := Ground.phase }, { on := 5, ground := Ground.phase }, { on := 6, ground := Ground.phase }, { on := 7, ground := Ground.phase }, { on := 8, ground := Ground.phase }, { on := 9, ground := Ground.phase }, { on := 10, ground := Ground.phase }, { on := 11, ground := Ground.phase }, { on := 12, ground := Ground.phase }, { on := 13, ground := Ground.phase }, { on := 14, ground := Ground.phase }, { on := 15, ground := Ground.phase }, { on := 16, ground := Ground.phase }, { on := 17, ground := Ground.phase }, { on := 18, ground := Ground.phase }, { on := 19, ground := Ground.phase }, { on := 20, ground := Ground.phase }, { on := 21, ground := Ground.phase }, { on := 22, ground := Ground.phase }], guard := none }) rfl (fun K hK => ?_) AllReadyH.nil
      have z0 := hz8.c
      have f0 := hz8.f
      have hf8 : w2.heap.size ≤ B + 1 := by have := HZ2.out; omega
      go_simp
      refine store1Step hn hz8 hf8 ?_
      clear z0 f0
      intro W3 hn hz8' hO
      clear hO hz8
      have hz8 := hz8'
      refine hK.out _ _ (by first | exact hn | exact Upd.alloc hn _) (fun hn => ?_)
      clear hK K
      try simp only [Act.put, List.setIfInBounds_toArray, List.set_cons_zero, List.set_cons_succ]
      refine wpAnyH_done (by kernel_rfl) ?_ _
      refine NoPanic.normal ?_
      go_wp2_with fail
      go_meet
      exact ⟨rfl, hn, hz8⟩
    case rest =>
      obtain ⟨rfl, hn3, k3⟩ := hcut
      obtain ⟨w3, rfl⟩ : ∃ w3, w3 = wc := ⟨_, rfl⟩
      have kn3 := K2.out.new hn3
      have c3 := C2.out.new hn3
      have u3 := U2.out.thenNew hn3
      have zn3 := kn3.c
      have hsz3 : B + 2 ≤ w3.heap.size := k3.lt
      have TS : Hid (((⟨T.toArray⟩ : ByteArray)).data.toList = T) := hid (by simp)
      have TZ : Hid ((⟨T.toArray⟩ : ByteArray).size = m) := by
        show _ = _
        have h1 : (⟨T.toArray⟩ : ByteArray).size = T.length := by simp [ByteArray.size]
        rw [h1, ← HTT.out]
        simp
        have := HMM.out
        omega
      unfold strV at k3
      generalize (⟨T.toArray⟩ : ByteArray) = TB at *
      have KN3 := hid kn3
      have KT3 := hid k3
      have C3 := hid c3
      have U3 := hid u3
      clear hn3 kn3 c3 u3 k3 hn
      have kn4 := (KN3.out.push (.cells #[.int .i64 0] 3)).c
      go_wp2_with fail
      have i0 : NInv C (.slice av bs.length cv) bs lim L w B w3.heap.size n q TB 0 (w3.alloc (.cells #[.int .i64 0] 3)) :=
        ⟨U3.out.alloc _, C3.out.new ((Upd.refl _ _).alloc _), HIQ.out, Nat.zero_le _, KN3.out.push _, KT3.out.push _, 0, Nat.le_refl _, .mk rfl, by simpa using HL.out⟩
      have hsz4 : w3.heap.size < (w3.alloc (.cells #[.int .i64 0] 3)).heap.size := by simp
      generalize w3.alloc (.cells #[.int .i64 0] 3) = w4 at *
      generalize w3.heap.size = Bs at *
      have I0 := hid i0
      clear i0 kn4 zn3
      go_loopg [8, 36] n (fun k _ a wr => ∃ i : Nat, k = n - i ∧ a = .int .i64 i ∧ NInv C (.slice av bs.length cv) bs lim L w B Bs n q TB i wr)
      case atStart => exact ⟨0, by simp, rfl, I0.out⟩
      case round =>
        obtain ⟨i, rfl, rfl, hinv⟩ := hrel
        have IR := hid hinv
        clear hinv I0
        have hCs : C ≠ Bs := by omega
        have hBs : w.heap.size ≤ Bs := by omega
        by_cases hlt : i < n
        · obtain ⟨s, hsi, ks, hnm⟩ := IR.out.st
          obtain ⟨k, hk⟩ : ∃ k, n - i = k + 1 := ⟨n - i - 1, by omega⟩
          obtain ⟨cur, hcur⟩ : ∃ cur, (TB.data.toList.drop s).take (i - s) = cur := ⟨_, rfl⟩
          rw [hk, hcur, nameL_step] at hnm
          have HNM := hid hnm
          have HKK := hid hk
          have HCUR := hid hcur
          have hni : New wr (wr.alloc (.cells #[.int .i64 i] 3)) := (Upd.refl _ _).alloc _
          have ki : One1 (wr.alloc (.cells #[.int .i64 i] 3)) wr.heap.size (.int .i64 i) := .mk rfl
          have hgb : B < wr.heap.size := IR.out.kn.lt
          have hgs : Bs < wr.heap.size := ks.lt
          have HB := hid (Byte_anyK (IR.out.cur.new hni) IR.out.inv 58 #[.pointer (some ⟨B + 1, 0, none⟩), .pointer (some ⟨Bs, 0, none⟩), .pointer (some ⟨wr.heap.size, 0, none⟩), .pointer (some ⟨B, 0, none⟩)] (fun _ _ => rfl)
            (mayN (k + 1) cur) (· = Bs) ⟨hCs, fun hne kk hk2 hk3 => by have := H0.out.rd.there hne _ hk2; omega⟩
            (fun w' => ∀ x, bs[q + i]? = some x → One1 w' Bs (.int .i64 (if (need (cur ++ [x])).1 = 0 then i + 1 else s : Nat)))
            (fun hp w1 hu hc r0 r1 => by
              have hx : bs[q + i]? = some bs[q + i] := List.getElem?_eq_getElem hp
              have him : i < m := by have := HMM.out; omega
              have hTL : (bs.drop q).take m = TB.data.toList := HTT.out.trans TS.out.symm
              have hext : (TB.extract s (i + 1)).data.toList = cur ++ [bs[q + i]] := by rw [sub2, text_next hTL hsi him hx, HCUR.out]
              refine (Name2_any bs[q + i] (rest lim (q + i + 1)) (B + 1) Bs wr.heap.size B TB s i n cur w1 hext hsi (by rw [TZ.out]; exact him) hlt HLT.out ((IR.out.kt.new hni).upd hu (by omega)).c ((ks.new hni).upd hu (by omega)) (ki.upd hu (by omega))
                ((IR.out.kn.new hni).upd hu (by omega)) (by omega) (by omega)).mono ?_
              rintro e w' ⟨b, he, hb, hu', hk'⟩
              rw [HKK.out] at hb
              refine ⟨b, he, hb, hu', fun hbt x hx' => ?_⟩
              rw [hx] at hx'
              cases hx'
              exact hk' hbt))
          have UI := hid (IR.out.up.thenNew hni)
          have KNI := hid (IR.out.kn.new hni)
          have KTI := hid (IR.out.kt.new hni)
          clear hnm hk hcur hni ki ks
          go_wp2_with fail
          refine HB.out.mono ?_
          rintro e w5 ⟨hu5, hm5⟩
          have U5 : Hid (Upd (· = C) w w5) := UI.out.trans hu5 (T := fun k => k = C ∨ k = Bs) (fun k hk hh => by
            rcases hh with hh | hh
            · exact hh
            · omega)
          have kn5 := hid (KNI.out.upd hu5 (by omega))
          have kt5 := hid (KTI.out.upd hu5 (by omega))
          cases ho : byteO bs lim (mayN (k + 1) cur) (q + i) with
          | up q' er =>
            rw [ho] at hm5
            obtain ⟨rfl, hc5⟩ := hm5
            have HO4 : Hid (O = .up q' er) := by
              show _ = _
              have := HNM.out
              rw [ho] at this
              rw [HO1.out, ← this]; rfl
            have HC5 := hid hc5
            clear ho hc5 hu5
            go_wp2_with fail
            exact ⟨rfl, Got.mk_up HO4.out U5.out rfl HC5.out⟩
          | ok x q' =>
            rw [ho] at hm5
            obtain ⟨rfl, hc5, hk5⟩ := hm5
            have hbo := byteO_ok ho
            have hbi := byteO_inv IR.out.inv ho
            have hnm := HNM.out
            rw [ho] at hnm
            simp only [Out.bind] at hnm
            obtain ⟨rfl, hpl, -, hx, -⟩ := hbo
            have k5 := hk5 x hx
            have HNM2 := hid hnm
            have HC5 := hid hc5
            have HBI := hid hbi
            have K5 := hid k5
            have HX := hid hx
            clear ho hc5 hu5 hnm hbi k5 hk5 hx
            go_wp2_with fail
            go_roundg (n - (i + 1))
            case measure => omega
            case rel =>
              refine ⟨i + 1, rfl, by go_num, U5.out, HC5.out, HBI.out, hlt, kn5.out, kt5.out, _, ?_, K5.out, ?_⟩
              · split <;> omega
              · rw [show n - (i + 1) = k by have := HKK.out; omega, show q + (i + 1) = q + i + 1 by omega]
                have him : i < m := by have := HMM.out; omega
                have hTL : (bs.drop q).take m = TB.data.toList := HTT.out.trans TS.out.symm
                have htn := text_next hTL hsi him HX.out
                rw [HCUR.out] at htn
                rw [← HNM2.out]
                by_cases hz : (need (cur ++ [x])).1 = 0
                · rw [if_pos hz, if_pos hz, Nat.sub_self]; rfl
                · rw [if_neg hz, if_neg hz, htn]
        · obtain rfl : i = n := by have := IR.out.le; omega
          obtain ⟨s, hsi, ks, hnm⟩ := IR.out.st
          rw [Nat.sub_self] at hnm
          have HLK : Hid (L = .ok () (q + i)) := by show _ = _; rw [← hnm]; rfl
          have HO5 : Hid (O = .ok T (q + i)) := by
            show _ = _
            have := IR.out.cur
            have h1 := IR.out.inv.place
            rw [HO1.out, HLK.out]
            simp only [Out.bind]
            rw [← HTT.out, show m = i by have := HMM.out; omega]
          have kt := IR.out.kt.c
          clear hnm ks
          go_wp2_with fail
          go_ret
          refine Got.mk_ok HO5.out IR.out.up ?_ IR.out.cur
          unfold strV
          have := TS.out
          rw [← this]
          rfl
end Go.Proofs.Ytkfohickmdkplaa

namespace Go.Proofs.Ytkfohickmdkplaa
open Go.RowKit Go.Proofs.Own Go.Proofs.Utf
set_option maxRecDepth 100000
set_option maxHeartbeats 2000000

theorem retLe {p : Prop} [Decidable p] {c : Bool} (h : p ↔ c = true) : Ending.returned (.bool (decide p)) = .returned (.bool c) := by
  have : decide p = c := by rw [Bool.eq_iff_iff, decide_eq_true_eq]; exact h
  rw [this]
theorem retB {b c : Bool} (h : b = c) : Ending.returned (.bool b) = .returned (.bool c) := by rw [h]

theorem Is_any (n : Nat) (w : World) (hn : n ≤ 1000000000000) :
    Calls Try.prog 80 #[.int .i64 n] w fun e w' => e = .returned (.bool (Utf.is n)) ∧ w = w' := by
  by_cases h1 : n ≤ 1114111
  · by_cases h2 : n < 55296
    · have HV : Hid (Utf.is n = true) := by show _ = _; unfold Utf.is; rw [decide_eq_true ⟨h1, .inl h2⟩]
      go_enter Try.func80, Try.ntmps80
      go_wp2_with fail
      go_ret
      exact ⟨by rw [HV.out]; rfl, rfl⟩
    · by_cases h3 : 57343 < n
      · have HV : Hid (Utf.is n = true) := by show _ = _; unfold Utf.is; rw [decide_eq_true ⟨h1, .inr h3⟩]
        go_enter Try.func80, Try.ntmps80
        go_wp2_with fail
        go_ret
        exact ⟨by rw [HV.out]; exact retB (b := decide ((n : Int) < 55296) || decide ((57343 : Int) < n)) ((Bool.or_eq_true _ _).mpr (.inr (decide_eq_true (by omega)))), rfl⟩
      · have HV : Hid (Utf.is n = false) := by show _ = _; unfold Utf.is; rw [decide_eq_false (by omega)]
        go_enter Try.func80, Try.ntmps80
        go_wp2_with fail
        go_ret
        exact ⟨by rw [HV.out]; exact retB (b := decide ((n : Int) < 55296) || decide ((57343 : Int) < n)) (by rw [decide_eq_false (by omega : ¬ (n : Int) < 55296), decide_eq_false (by omega : ¬ (57343 : Int) < n)]; rfl), rfl⟩
  · have HV : Hid (Utf.is n = false) := by show _ = _; unfold Utf.is; rw [decide_eq_false (by omega)]
    go_enter Try.func80, Try.ntmps80
    go_wp2_with fail
    go_ret
    exact ⟨by rw [HV.out]; rfl, rfl⟩

theorem pow64 {i : Nat} (h : i ≤ 3) : 64 ^ i ≤ 262144 := by
  have : (64 : Nat) ^ 3 = 262144 := by decide
  rw [← this]; exact Nat.pow_le_pow_right (by decide) h

theorem any3_any (n g least most : Nat) (w : World) (hn : n < 4194304) (hg : g ≤ 3) (h1 : least ≤ 1114112) (h2 : most ≤ 1114112) (h3 : 0 < most) :
    Calls Try.prog 79 #[.int .i64 n, .int .i64 g, .int .i64 least, .int .i64 most] w fun e w' =>
      e = .returned (.bool (clip (wide g n n).1 (wide g n n).2 least most)) ∧ w = w' := by
  obtain ⟨r, hr⟩ : ∃ r, wide g n n = r := ⟨_, rfl⟩
  rw [hr]
  have HR := hid hr
  clear hr
  go_enter Try.func79, Try.ntmps79
  go_wp2_with fail
  go_loopg [9, 10, 11] g (fun k a b c wr => ∃ i lo hi P : Nat, k = g - i ∧ a = .int .i64 lo ∧ b = .int .i64 hi ∧ c = .int .i64 i ∧ i ≤ g ∧ P = 64 ^ i ∧ lo ≤ hi ∧ hi + 1 ≤ 4194304 * P ∧ w = wr ∧ wide (g - i) lo hi = r)
  case atStart => exact ⟨0, n, n, 1, rfl, rfl, rfl, rfl, Nat.zero_le _, rfl, Nat.le_refl _, by omega, rfl, HR.out⟩
  case round =>
    obtain ⟨i, lo, hi, P, rfl, rfl, rfl, rfl, hi1, hP, hlh, hhi, rfl, hw⟩ := hrel
    have hPb : P ≤ 262144 := by rw [hP]; exact pow64 (by omega)
    have HP := hid hP
    have HW := hid hw
    clear hP hw
    by_cases hlt : i < g
    · have HW2 : Hid (wide (g - (i + 1)) (64 * lo) (64 * hi + 63) = r) := by
        have := HW.out
        rw [show g - i = (g - (i + 1)) + 1 by omega, wide] at this
        exact this
      have HP2 : Hid (P * 64 = 64 ^ (i + 1)) := by show _ = _; rw [Nat.pow_succ, HP.out]
      go_wp2_with fail
      go_roundg (g - (i + 1))
      case measure => omega
      case rel => exact ⟨i + 1, 64 * lo, 64 * hi + 63, P * 64, rfl, by go_num, by go_num, by go_num, by omega, HP2.out, by omega, by omega, rfl, HW2.out⟩
    · have HE : Hid (r = (lo, hi)) := by
        have := HW.out
        rw [show g - i = 0 by omega, wide] at this
        exact this.symm
      go_wp2_with fail
      all_goals
        go_ret
        first
          | exact ⟨retLe (by rw [HE.out]; unfold clip; dsimp only; rw [decide_eq_true_eq]; repeat' split
                             all_goals omega), rfl⟩
          | exact ⟨retB (Eq.symm (by rw [HE.out]; unfold clip; dsimp only; rw [decide_eq_true_eq]; repeat' split
                                     all_goals omega)), rfl⟩
          | exact ⟨retB (Eq.symm (by rw [HE.out]; unfold clip; dsimp only; rw [decide_eq_false_iff_not]; repeat' split
                                     all_goals omega)), rfl⟩
end Go.Proofs.Ytkfohickmdkplaa
