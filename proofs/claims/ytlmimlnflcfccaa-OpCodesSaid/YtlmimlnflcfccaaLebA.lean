/-
  What the laws of layer 1 call besides: bits, awake.
-/
import Derived.Test.YtlmimlnflcfccaaLebF
import Derived.Test.YtlmimlnflcfccaaLebP
import Derived.Deep.RegionHeld3
import Derived.Laws.IdiomStrings
namespace Go.Proofs.Ytlmimlnflcfccaa
open Go.RowKit Go.Proofs.Leb Go.Proofs.Own
set_option maxRecDepth 100000
set_option maxHeartbeats 2000000

theorem bits_any (n : Int) (w : World) (n1 : -9223372036854775808 ≤ n) (n2 : n ≤ 9223372036854775807) :
    Calls Try.prog 25 #[.int .i64 n] w fun e w' => e = .returned (.int .i64 (clamp n)) ∧ w = w' := by
  have HC : Hid (((clamp n : Nat) : Int) = max 1 (min n 64)) := by show ((clamp n : Nat) : Int) = _; unfold clamp; omega
  go_enter Try.func25, Try.ntmps25
  go_wp2_with fail
  all_goals
    go_ret
    refine ⟨?_, rfl⟩
    rw [HC.out]
    first | rfl | (show Ending.returned (Value.int .i64 _) = Ending.returned (Value.int .i64 _); congr 2; omega)

/-- a slice of bytes as a string -/
theorem Rd.str {w : World} {v : Value} {bs : List UInt8} (h : Rd w v bs) : (convert 22 9 v).run Try.prog w = .ok (.string ⟨bs.toArray⟩) w := by
  obtain ⟨a, cap, rfl, h1, h2, h3⟩ := h
  cases a with
  | none =>
    have hc := h2 rfl
    subst hc
    have : bs = [] := List.eq_nil_of_length_eq_zero (by omega)
    subst this
    exact run_convert_bytes_nil (P := Try.prog) w 22 5 Try.underlying22 Try.underlying5 0 0 9 Try.underlying9
  | some ad =>
    exact run_convert_bytes_back (P := Try.prog) w 22 9 5 ad cap bs Try.underlying22 Try.underlying5 Try.underlying9 (fun j hj => by
      obtain ⟨b, o, e, hc⟩ := h3 (by intro e; subst e; simp at hj)
      cases e
      rw [Addr.add_lit]
      exact hc j hj)

/-- a literal -/
theorem Rd.lit (w : World) (bs : List UInt8) (e : TypeId) : Rd (w.alloc (.cells (bs.map cb).toArray e)) (.slice (some ⟨w.heap.size, 0, none⟩) bs.length bs.length) bs := by
  refine ⟨_, _, rfl, Nat.le_refl _, (fun h => by cases h), fun _ => ⟨_, _, rfl, fun i hi => ?_⟩⟩
  rw [cell_of_row _ w.heap.size (0 + i) _ e (0, 0) (heap_alloc_new w _)]
  simp [hi]

theorem ex1 : sV [255, 255, 255, 255, 127] 32 = -1 ∧ dN okS [255, 255, 255, 255, 127] 32 = 5 ∧ dE okS [255, 255, 255, 255, 127] 32 = 0 := by decide +kernel
theorem ex2 : dN okS [255, 255, 255, 255, 15] 32 = 4 ∧ dE okS [255, 255, 255, 255, 15] 32 = 2 := by decide +kernel
theorem ex3 : encU 300 0 = [172, 2] := by rw [encU, encU]; decide
theorem ex4 : encS (-1) 0 = [127] := by rw [encS]; decide

theorem lit1 (w : World) (e : TypeId) : Rd (w.alloc (.cells #[.int .u8 255, .int .u8 255, .int .u8 255, .int .u8 255, .int .u8 127] e)) (.slice (some ⟨w.heap.size, 0, none⟩) 5 5) [255, 255, 255, 255, 127] := Rd.lit w [255, 255, 255, 255, 127] e
theorem lit2 (w : World) (g : Nat) (hg : g = w.heap.size) (e : TypeId) : Rd (w.alloc (.cells #[.int .u8 255, .int .u8 255, .int .u8 255, .int .u8 255, .int .u8 15] e)) (.slice (some ⟨g, 0, none⟩) 5 5) [255, 255, 255, 255, 15] := by
  subst hg; exact Rd.lit w [255, 255, 255, 255, 15] e
theorem awake1_any (w : World) : Calls Try.prog 22 #[] w fun e w' => e = .returned (.bool true) ∧ New w w' := by
  have HS : Hid (∀ v bs w', Rd w' v bs → bs.length = 5 → Calls Try.prog 26 #[v, .int .i64 32] w' fun e w'' => e = .returned (.tuple #[.int .i64 (sV bs 32), .int .i64 (dN okS bs 32), .int .i64 (dE okS bs 32)]) ∧ w' = w'') :=
    fun v bs w' h hl => S_any v bs 32 w' h (by omega) (by omega) (by omega)
  have HU : Hid (∀ w', Calls Try.prog 18 #[.slice none 0 0, .int .u64 300] w' (Post w' (.slice none 0 0) [172, 2])) := fun w' => by
    have h := putU_any (.slice none 0 0) [] 300 w' (by omega) (by simp) (Bytes.nil w')
    rw [ex3] at h
    exact h
  have HV : Hid (∀ w', Calls Try.prog 19 #[.slice none 0 0, .int .i64 (-1)] w' (Post w' (.slice none 0 0) [127])) := fun w' => by
    have h := putS_any (.slice none 0 0) [] (-1) w' (by omega) (by omega) (by simp) (Bytes.nil w')
    rw [ex4] at h
    exact h
  go_enter Try.func22, Try.ntmps22
  go_wp2_with fail
  refine (HS.out (.slice (some ⟨w.heap.size, 0, none⟩) 5 5) [255, 255, 255, 255, 127] _ (lit1 w 5) rfl).mono ?_
  rintro e w' ⟨rfl, rfl⟩
  rw [ex1.1, ex1.2.1, ex1.2.2]
  go_wp2_with fail
  refine (HS.out (.slice (some ⟨w.heap.size + 1, 0, none⟩) 5 5) [255, 255, 255, 255, 15] _ (lit2 _ _ (by simp) 5) rfl).mono ?_
  rintro e w' ⟨rfl, rfl⟩
  rw [ex2.1, ex2.2]
  go_wp2_with fail
  refine (HU.out _).mono ?_
  rintro e w3 ⟨v3, rfl, hb3, ha3⟩
  have hs3 := hb3.rd.str
  obtain ⟨hn3, hf3⟩ := ha3.nil
  clear ha3 hb3
  go_wp2_with fail
  refine (HV.out _).mono ?_
  rintro e w4 ⟨v4, rfl, hb4, ha4⟩
  have hs4 := hb4.rd.str
  obtain ⟨hn4, hf4⟩ := ha4.nil
  clear ha4 hb4
  go_wp2_with fail
  go_ret
  exact ⟨rfl, (((Upd.refl _ _).alloc _).alloc _).trans (New.trans hn3 hn4) (fun _ _ h => h)⟩
end Go.Proofs.Ytlmimlnflcfccaa
