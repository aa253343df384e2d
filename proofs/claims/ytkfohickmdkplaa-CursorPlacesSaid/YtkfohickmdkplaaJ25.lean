/-
  The document's reader: limits that are met; bytes as they are.
-/
import Derived.Test.YtkfohickmdkplaaJ21
import Derived.Test.YtkfohickmdkplaaJ23
import Derived.Test.YtkfohickmdkplaaJ24
namespace Go.Proofs.Ytkfohickmdkplaa
open Go.RowKit Go.Proofs.Leb Go.Proofs.Own Go.Proofs.Cur
set_option maxRecDepth 100000
set_option maxHeartbeats 4000000

structure SL (a : World) (R q : Nat) (w' : World) : Prop where
  up : Upd (· = R) a w'
  c1 : w'.cell? ⟨R, 1, none⟩ = some (.int .i64 q)
theorem SL.new {a b c : World} {R q : Nat} (h : SL a R q b) (hn : New b c) : SL a R q c := ⟨h.up.thenNew hn, hn.cell h.c1 (fun h => h)⟩
theorem SL.upd {a b c : World} {R q : Nat} (h : SL a R q b) (hu : Upd (· = R) b c) (h1 : c.cell? ⟨R, 1, none⟩ = some (.int .i64 q)) : SL a R q c := ⟨h.up.trans hu (fun _ _ h => h), h1⟩

theorem rLeave_gone {w : World} {R : Nat} {B : ByteArray} {p : Nat} {lim : Int} {er sp : Nat} (h : Rdr w R B p lim er sp) (he : er ≠ 0) (was : Int) :
    Calls Try.prog 37 #[.pointer (some ⟨R, 0, none⟩), .int .i64 was] w fun e w' => e = .returned (.tuple #[]) ∧ w = w' := by
  have c3 := h.c3
  have hb : ((er : Int) == 0) = false := by rw [beq_eq_false_iff_ne]; omega
  go_enter Try.func37, Try.ntmps37
  go_wp2
  go_end0
  exact ⟨rfl, rfl⟩
def LeaveP (w : World) (R : Nat) (B : ByteArray) (p : Nat) (r was : Int) (e : Ending) (w' : World) : Prop :=
  e = .returned (.tuple #[]) ∧ Upd (· = R) w w' ∧ Rdr w' R B p was (if r = 0 then 0 else 2) (if r = 0 then 0 else p)
theorem rLeave_any {w : World} {R : Nat} {B : ByteArray} {p : Nat} {lim : Int} (h : Rdr w R B p lim 0 0) (hi : Inv B.size lim p) (was : Int) :
    Calls Try.prog 37 #[.pointer (some ⟨R, 0, none⟩), .int .i64 was] w (LeaveP w R B p (rest lim p) was) := by
  have c3 := h.c3
  have H0 := hid h
  have HRS : Hid (∀ W, New w W → Calls Try.prog 38 #[.pointer (some ⟨R, 0, none⟩)] W fun e w' => e = .returned (.int .i64 (rest lim p)) ∧ New W w') := fun W hW => rRest_any (h.new hW) hi
  obtain ⟨r, hr⟩ : ∃ r, rest lim p = r := ⟨_, rfl⟩
  rw [hr] at HRS ⊢
  clear hi hr h
  go_enter Try.func37, Try.ntmps37
  go_wp2_with fail
  have hnn : New w w.drew := (Upd.refl _ _).drew
  have hn : SL w R p w.drew := ⟨(Upd.refl _ _).drew, H0.out.c1⟩
  refine wp_region_noPanic ?_
  refine wp_region_held_drew (S := (SL w R p)) (by kernel_rfl) (by first | exact hn | exact (Upd.refl _ _).drew | exact Upd.drew (by assumption)) (fun hn => ?_)
  generalize w.drew = wd at *
  refine wpAnyH_take (i := 0) (oi := { dst := some 9, op := Op.move (Operand.tmp 0), type := 33, pos := "ref.go:270", after := #[], guard := none }) (v := ?v14x1) rfl (by kernel_rfl) (by kernel_rfl) (by kernel_rfl) (fun _ _ _ h => h) (Or.inl ⟨by rfl, ?y14x1⟩) hn ?r14x1
  case y14x1 => (intro wS hS; (try go_simp); (try with_reducible rfl))
  try simp only [Act.put, List.setIfInBounds_toArray, List.set_cons_zero, List.set_cons_succ]
  refine wpAnyH_take (i := 1) (oi := { dst := some 10, op := Op.move (Operand.tmp 0), type := 33, pos := "ref.go:270", after := #[], guard := none }) (v := ?v14x2) rfl (by kernel_rfl) (by kernel_rfl) (by kernel_rfl) (fun _ _ _ h => h) (Or.inl ⟨by rfl, ?y14x2⟩) hn ?r14x2
  case y14x2 => (intro wS hS; (try go_simp); (try with_reducible rfl))
  try simp only [Act.put, List.setIfInBounds_toArray, List.set_cons_zero, List.set_cons_succ]
  refine wpAnyH_take (i := 4) (oi := { dst := some 13, op := Op.move (Operand.tmp 0), type := 33, pos := "ref.go:270", after := #[], guard := none }) (v := ?v14x3) rfl (by kernel_rfl) (by kernel_rfl) (by kernel_rfl) (fun _ _ _ h => h) (Or.inl ⟨by rfl, ?y14x3⟩) hn ?r14x3
  case y14x3 => (intro wS hS; (try go_simp); (try with_reducible rfl))
  try simp only [Act.put, List.setIfInBounds_toArray, List.set_cons_zero, List.set_cons_succ]
  refine wpAnyH_take (i := 5) (oi := { dst := some 14, op := Op.nilCheck (Operand.tmp 13), type := 0, pos := "ref.go:270", after := #[{ on := 4, ground := Ground.data }], guard := none }) (v := ?v14x4) rfl (by kernel_rfl) (by kernel_rfl) (by kernel_rfl) (fun _ _ _ h => h) (Or.inl ⟨by rfl, ?y14x4⟩) hn ?r14x4
  case y14x4 => (intro wS hS; (try go_simp); (try with_reducible rfl))
  try simp only [Act.put, List.setIfInBounds_toArray, List.set_cons_zero, List.set_cons_succ]
  refine wpAnyH_take (i := 6) (oi := { dst := some 15, op := Op.fieldAddr 37 (Operand.tmp 14) 1, type := 0, pos := "ref.go:270", after := #[{ on := 5, ground := Ground.data }], guard := none }) (v := ?v14x5) rfl (by kernel_rfl) (by kernel_rfl) (by kernel_rfl) (fun _ _ _ h => h) (Or.inl ⟨by rfl, ?y14x5⟩) hn ?r14x5
  case y14x5 => (intro wS hS; (try go_simp); (try with_reducible rfl))
  try simp only [Act.put, List.setIfInBounds_toArray, List.set_cons_zero, List.set_cons_succ]
  refine wpAnyH_take (i := 7) (oi := { dst := some 16, op := Op.load 3 (Operand.tmp 15), type := 3, pos := "ref.go:270", after := #[{ on := 6, ground := Ground.data }], guard := none }) (v := ?v14x6) rfl (by kernel_rfl) (by kernel_rfl) (by kernel_rfl) (fun _ _ _ h => h) (Or.inl ⟨by rfl, ?y14x6⟩) hn ?r14x6
  case y14x6 => (intro wS hS; have c := hS.c1; (try go_simp); (try with_reducible rfl))
  try simp only [Act.put, List.setIfInBounds_toArray, List.set_cons_zero, List.set_cons_succ]
  refine wpAnyH_ready (rs := [2]) (by kernel_rfl) (by simp) ?_
  refine AllReadyH.cons (o := { dst := some 11, op := Op.call { callee := Callee.value (Operand.func 38), args := #[Operand.tmp 10], argTypes := #[33] }, type := 3, pos := "ref.go:270", after := #[{ on := 1, ground := Ground.data }], guard := none }) rfl (fun K hK => ?_) AllReadyH.nil
  go_simp
  refine (HRS.out _ hnn).mono ?_
  rintro e wa ⟨rfl, hna⟩
  go_wp2_with fail
  have hn := hn.new hna
  have hnn := New.trans hnn hna
  refine hK.out _ _ (by first | exact hn | exact Upd.alloc hn _) (fun hn => ?_)
  clear hK K
  try simp only [Act.put, List.setIfInBounds_toArray, List.set_cons_zero, List.set_cons_succ]
  refine wpAnyH_take (i := 3) (oi := { dst := some 12, op := Op.binOp BinOp.eql 3 (Operand.tmp 11) (Operand.const (Value.int IntKind.i64 0)) 3, type := 4, pos := "ref.go:270", after := #[{ on := 2, ground := Ground.data }], guard := none }) (v := ?v14x7) rfl (by kernel_rfl) (by kernel_rfl) (by kernel_rfl) (fun _ _ _ h => h) (Or.inl ⟨by rfl, ?y14x7⟩) hn ?r14x7
  case y14x7 => (intro wS hS; (try go_simp); (try with_reducible rfl))
  try simp only [Act.put, List.setIfInBounds_toArray, List.set_cons_zero, List.set_cons_succ]
  refine wpAnyH_ready (rs := [8]) (by kernel_rfl) (by simp) ?_
  refine AllReadyH.cons (o := { dst := some 17, op := Op.call { callee := Callee.value (Operand.func 31), args := #[Operand.tmp 9, Operand.tmp 12, Operand.tmp 16], argTypes := #[33, 4, 3] }, type := 0, pos := "ref.go:270", after := #[{ on := 0, ground := Ground.data }, { on := 3, ground := Ground.data }, { on := 7, ground := Ground.data }, { on := 2, ground := Ground.chain }], guard := none }) rfl (fun K hK => ?_) AllReadyH.nil
  go_simp
  refine (rNeed_any' (H0.out.new hnn) (r == 0) p).mono ?_
  rintro e wc ⟨rfl, h5, u5⟩
  have H5 := hid h5
  go_wp2_with fail
  have hn := hn.upd u5 h5.c1
  clear h5
  refine hK.out _ _ (by first | exact hn | exact Upd.alloc hn _) (fun hn => ?_)
  clear hK K
  try simp only [Act.put, List.setIfInBounds_toArray, List.set_cons_zero, List.set_cons_succ]
  refine wpAnyH_done (by kernel_rfl) ?_ _
  refine NoPanic.normal ?_
  have h5 := H5.out
  have c2 := h5.c2
  have f2 := h5.f 2
  have H6 := hid (h5.lim2 was)
  have U6 := hid (hn.up.trans (updR _ R 2 (.int .i64 was)) (fun _ _ h => h))
  clear h5 hn hnn hna u5
  go_wp2_with fail
  go_end0
  refine ⟨rfl, U6.out, ?_⟩
  have h6 := H6.out
  by_cases hz : r = 0
  · subst hz
    exact h6
  · rw [if_neg hz, if_neg hz]
    have : (r == 0) = false := by simpa using hz
    rw [this] at h6
    exact h6
end Go.Proofs.Ytkfohickmdkplaa

namespace Go.Proofs.Ytkfohickmdkplaa
open Go.RowKit Go.Proofs.Leb Go.Proofs.Own Go.Proofs.Cur
set_option maxRecDepth 100000
set_option maxHeartbeats 4000000

theorem st_cat2 (a b : List UInt8) : (⟨a.toArray⟩ : ByteArray) ++ ⟨b.toArray⟩ = ⟨(a ++ b).toArray⟩ := by
  apply ByteArray.ext
  simp

/-- one byte as a text, from the block in which it is laid -/
theorem conv1 (w : World) (x : UInt8) : (convert 22 9 (.slice (some ⟨w.heap.size, 0, none⟩) 1 1)).run Try.prog (w.alloc (.cells #[.int .u8 x.toNat] 5)) = .ok (.string ⟨[x].toArray⟩) (w.alloc (.cells #[.int .u8 x.toNat] 5)) :=
  (Rd.lit w [x] 5).str

theorem rest_at {lim : Int} {p i : Nat} : rest lim (p + i) = if lim = -1 then 1099511627776 else rest lim p - i := by
  unfold rest
  split <;> omega

structure WInv (R : Nat) (B : ByteArray) (lim : Int) (p : Nat) (n : Int) (O : Out (List UInt8)) (w : World) (i k : Nat) (A : ByteArray) (wr : World) : Prop where
  up : Upd (· = R) w wr
  st : (Rdr wr R B (p + i) lim 0 0 ∧ Inv B.size lim (p + i) ∧ ((i : Int) ≤ n ∨ i = 0) ∧ A = ⟨((B.data.toList.drop p).take i).toArray⟩ ∧ k = B.size - p - i + 1) ∨
    (∃ p' er sp, er ≠ 0 ∧ Rdr wr R B p' lim er sp ∧ O = .up sp er ∧ k = 0 ∧ i ≤ B.size + 1)

theorem rRaw_any {w : World} {R : Nat} {B : ByteArray} {p : Nat} {lim : Int} (h : Rdr w R B p lim 0 0) (hi : Inv B.size lim p) (n : Int) (hn : n ≤ 9223372036854775807) :
    Calls Try.prog 34 #[.pointer (some ⟨R, 0, none⟩), .int .i64 n] w (RGot R B lim strV (rawO B.data.toList lim n p) w) := by
  have HI := hid hi
  have il := hi.len
  obtain ⟨O, hO⟩ : ∃ O, rawO B.data.toList lim n p = O := ⟨_, rfl⟩
  have HO := hid hO
  rw [hO]
  have i0 : WInv R B lim p n O w 0 (B.size - p + 1) ⟨#[]⟩ w := ⟨Upd.refl _ _, .inl ⟨h, hi, .inr rfl, by simp, rfl⟩⟩
  have I0 := hid i0
  have HL := hid (size_list B)
  clear hi h hO i0
  go_enter Try.func34, Try.ntmps34
  go_wp2_with fail
  go_loopg [5, 6, 7] (B.size - p + 1) (fun k a b _ wr => ∃ (i : Nat) (A : ByteArray), a = .string A ∧ b = .int .i64 i ∧ WInv R B lim p n O w i k A wr)
  case atStart => exact ⟨0, ⟨#[]⟩, rfl, rfl, I0.out⟩
  case round =>
    obtain ⟨i, A, rfl, rfl, hinv⟩ := hrel
    have IR := hid hinv
    clear hinv I0
    rcases IR.out.st with ⟨hq, hiq, hin, hA, hk⟩ | ⟨p', er, sp, he, hr, ho, hk, hib⟩
    · have HQ := hid hq
      have HIQ := hid hiq
      have HA := hid hA
      have HK := hid hk
      have hip := hiq.place
      have hasz : A.size = i := by
        rw [hA]
        show (((B.data.toList.drop p).take i).toArray).size = i
        simp
        omega
      have c3 := hq.c3
      by_cases hlt : (i : Int) < n
      · have HNX := hid (rNext_any hq hiq)
        have HIN := hid hin
        clear hq hiq hA hk hin
        go_wp2_with fail
        refine HNX.out.mono ?_
        rintro e w2 ⟨hu2, hm2⟩
        have U2 := hid (IR.out.up.trans hu2 (fun _ _ h => h))
        cases ho : nextO B.data.toList lim (p + i) with
        | up q' er =>
          rw [ho] at hm2
          obtain ⟨a, p', rfl, hr2⟩ := hm2
          have hne := nextO_er ho
          have HNE := hid hne
          have HOU : Hid (O = .up q' er) := by
            show _ = _
            rw [← HO.out]
            have hrp := HI.out.rest
            have hpl := HI.out.place
            have hlim := HI.out.lim
            unfold nextO at ho
            unfold rawO
            rw [HL.out]
            have hL := HL.out
            have hra := rest_at (lim := lim) (p := p) (i := i)
            split at ho
            · rename_i h0
              cases ho
              rw [hra] at h0
              have hl1 : lim ≠ -1 := by intro hl; rw [if_pos hl] at h0; simp at h0
              rw [if_neg hl1] at h0
              rw [if_neg (by omega), if_neg (by omega)]
              congr 1
              omega
            · rename_i h0
              split at ho
              · cases ho
              · cases ho
                have hin := HIN.out
                rw [hra] at h0
                by_cases hl1 : lim = -1
                · have hrr : rest lim p = 1099511627776 := by unfold rest; rw [if_pos hl1]
                  rw [hrr, if_neg (by omega), if_pos (by omega)]
                  congr 1
                  omega
                · rw [if_neg hl1] at h0
                  have h1 := HIQ.out.rest
                  rw [hra, if_neg hl1] at h1
                  rw [if_neg (by omega), if_pos (by omega)]
                  congr 1
                  omega
          have c3 := hr2.c3
          have hb : ((er : Int) == 0) = false := by rw [beq_eq_false_iff_ne]; omega
          have HR2 := hid hr2
          clear ho hr2 hu2 hne
          unfold cb
          go_wp2_with fail
          go_roundg 0
          case measure => rw [HK.out]; omega
          case rel => exact ⟨i + 1, A, rfl, by go_num, U2.out, .inr ⟨p', er, q', HNE.out, HR2.out, HOU.out, rfl, by omega⟩⟩
        | ok b q' =>
          rw [ho] at hm2
          obtain ⟨rfl, hr2⟩ := hm2
          have c3 := hr2.c3
          obtain ⟨rfl, hpl, hr0⟩ := nextO_ok ho
          have hbx : b = (B.data.toList)[p + i] := by
            unfold nextO at ho
            rw [if_neg hr0, dif_pos hpl] at ho
            cases ho; rfl
          rw [HL.out] at hpl
          have HBX : Hid (B.data.toList[p + i]? = some b) := by
            show _ = _
            rw [hbx]; exact List.getElem?_eq_getElem _
          have HIQ2 := hid (HIQ.out.next hr0 hpl)
          have HR2 := hid hr2
          have hcv := conv1 w2 b
          have hsz1 : ¬ 9223372036854775807 < A.size + (⟨[b].toArray⟩ : ByteArray).size := by
            have : (⟨[b].toArray⟩ : ByteArray).size = 1 := rfl
            omega
          have hn3 := (Upd.refl (fun _ => False) w2).alloc (.cells #[.int .u8 b.toNat] 5)
          have H3 := hid (HR2.out.new hn3)
          have U3 := hid (U2.out.thenNew hn3)
          clear ho hr2 hu2 hbx hr0 hn3
          unfold cb
          generalize hB1 : (⟨[b].toArray⟩ : ByteArray) = B1 at *
          have HB1 := hid hB1
          clear hB1
          go_wp2_with fail
          go_roundg (B.size - p - (i + 1) + 1)
          case measure => rw [HK.out]; omega
          case rel =>
            refine ⟨i + 1, A ++ B1, rfl, by go_num, U3.out, .inl ⟨H3.out, HIQ2.out, .inl (by omega), ?_, rfl⟩⟩
            rw [HA.out, ← HB1.out, st_cat2]
            congr 2
            rw [List.take_add_one, List.getElem?_drop, HBX.out]
            rfl
      · have HO5 : Hid (O = .ok ((B.data.toList.drop p).take i) (p + i)) := by
          show _ = _
          have h1 := hiq.rest
          have hra := rest_at (lim := lim) (p := p) (i := i)
          have hnt : n.toNat = i := by omega
          rw [← HO.out]
          unfold rawO
          rw [HL.out, hnt]
          rw [hra] at h1
          by_cases hl1 : lim = -1
          · have hrr : rest lim p = 1099511627776 := by unfold rest; rw [if_pos hl1]
            rw [hrr, if_pos (by omega)]
          · rw [if_neg hl1] at h1
            rw [if_pos (by omega)]
        clear hq hiq hA hk hin
        go_wp2_with fail
        go_ret
        refine RGot.mk_ok HO5.out IR.out.up ?_ HQ.out
        unfold strV
        rw [← HA.out]
        rfl
    · have HE := hid he
      have HR := hid hr
      have HO2 := hid ho
      have c3 := hr.c3
      have hb : ((er : Int) == 0) = false := by rw [beq_eq_false_iff_ne]; omega
      clear he hr ho
      by_cases hlt : (i : Int) < n
      all_goals
        go_wp2_with fail
        go_ret
        exact RGot.mk_up (A.data.toList) HO2.out IR.out.up (by unfold strV; rfl) HR.out
end Go.Proofs.Ytkfohickmdkplaa

namespace Go.Proofs.Ytkfohickmdkplaa
open Go.RowKit Go.Proofs.Leb Go.Proofs.Own Go.Proofs.Cur
set_option maxRecDepth 100000
set_option maxHeartbeats 2000000

theorem rNew_any (B : ByteArray) (w : World) :
    Calls Try.prog 9 #[.string B] w fun e w' => e = .returned (.pointer (some ⟨w.heap.size, 0, none⟩)) ∧ New w w' ∧ Rdr w' w.heap.size B 0 (-1) 0 0 := by
  go_enter Try.func9, Try.ntmps9
  go_wp2_with fail
  go_ret
  exact ⟨rfl, (Upd.refl _ _).alloc _, hp_new rfl⟩

theorem At_any {w : World} {C : Nat} {v : Value} {bs : List UInt8} {p : Nat} {lim : Int} {er : Nat} (h : Cur w C v bs p lim er) :
    Calls Try.prog 29 #[.pointer (some ⟨C, 0, none⟩)] w fun e w' => e = .returned (.int .i64 p) ∧ w = w' := by
  have c1 := h.c1
  go_enter Try.func29, Try.ntmps29
  go_wp2_with fail
  go_ret
  exact ⟨rfl, rfl⟩

/-- a number's bytes, the least first -/
def numL (n i : Nat) : List UInt8 := (List.range i).map fun j => UInt8.ofNat (n / 2 ^ (8 * j))
def numV (n : Nat) : Value := .string ⟨(numL n 8).toArray⟩
theorem numL_succ (n i : Nat) : numL n (i + 1) = numL n i ++ [UInt8.ofNat (n / 2 ^ (8 * i))] := by
  unfold numL
  rw [List.range_succ, List.map_append]
  rfl

theorem number_any (n : Nat) (hn : n < 18446744073709551616) (w : World) :
    Calls Try.prog 20 #[.int .u64 n] w fun e w' => e = .returned (numV n) ∧ New w w' := by
  have HNN := hid hn
  clear hn
  go_enter Try.func20, Try.ntmps20
  go_wp2_with fail
  go_loopg [3, 4] 8 (fun k s a wr => ∃ i : Nat, k = 8 - i ∧ i ≤ 8 ∧ s = .string ⟨(numL n i).toArray⟩ ∧ a = .int .i64 i ∧ New w wr)
  case atStart => exact ⟨0, rfl, by omega, rfl, rfl, Upd.refl _ _⟩
  case round =>
    obtain ⟨i, rfl, hi, rfl, rfl, hw⟩ := hrel
    have HW := hid hw
    clear hw
    by_cases h8 : (i : Int) < 8
    · obtain ⟨x, hx⟩ : ∃ x, UInt8.ofNat (n / 2 ^ (8 * i)) = x := ⟨_, rfl⟩
      have HX := hid hx
      have hcv := conv1 wr x
      have hs : ((n : Int) / 2 ^ (8 * i)) % 256 = (x.toNat : Int) := by
        rw [← hx]
        simp only [UInt8.toNat_ofNat']
        push_cast
        rfl
      have HSZ := hid (show (numL n i).length = i by simp [numL])
      clear hx
      obtain ⟨A, hA⟩ : ∃ A : ByteArray, (⟨(numL n i).toArray⟩ : ByteArray) = A := ⟨_, rfl⟩
      have HA := hid hA
      have hsz1 : ¬ 9223372036854775807 < A.size + (⟨[x].toArray⟩ : ByteArray).size := by
        have h1 : (⟨[x].toArray⟩ : ByteArray).size = 1 := rfl
        have h2 : A.size = i := by rw [← hA]; exact HSZ.out
        omega
      rw [hA]
      clear hA
      go_wp2_with fail
      go_roundg (8 - (i + 1))
      case measure => omega
      case rel =>
        refine ⟨i + 1, rfl, by omega, ?_, by go_num, HW.out.alloc _⟩
        rw [numL_succ, HX.out, ← st_cat2, HA.out]
    · obtain rfl : i = 8 := by omega
      go_wp2_with fail
      go_ret
      exact ⟨rfl, HW.out⟩
end Go.Proofs.Ytkfohickmdkplaa
