/-
  The walks of ops: Codes, a walk that is handed out.
-/
import Derived.Test.YtlmimlnflcfccaaOpT
import Derived.RangeFuncNested
import Derived.RangeFuncBound
import Derived.RangeFuncCalls
import Derived.RangeFuncLeaves
import Derived.Shelf.Abstract
import Derived.Shelf.RegionOpen
import Derived.WalkKit
import Derived.OwnWalkIn
import Derived.TacticsInMore
import Derived.LoopNIn
import Derived.LoopIn
namespace Go.Proofs.Ytlmimlnflcfccaa
open Go.RowKit Go.Shelf Go.Proofs.Own
attribute [local go_sem] Oper.semAt_some
set_option maxRecDepth 100000
set_option maxHeartbeats 2000000

def isOp (p : Int) (i : Nat) : Bool := (findV p (i : Int)).2.2
abbrev Cd := { k : Nat // k < 4294967296 }
def el (k : Nat) : Cd := ⟨k % 4294967296, Nat.mod_lt _ (by decide)⟩
theorem el_eq (k : Nat) (h : k < 4294967296) : el k = ⟨k, h⟩ := Subtype.ext (Nat.mod_eq_of_lt h)
def upto (p : Int) (i : Nat) : List Cd := ((List.range i).filter (isOp p)).map el
theorem upto_succ (p : Int) (i : Nat) (h : i < 4294967296) : upto p (i + 1) = upto p i ++ (if isOp p i = true then [⟨i, h⟩] else []) := by
  unfold upto
  rw [List.range_succ, List.filter_append, List.map_append]
  congr 1
  by_cases h1 : isOp p i = true
  · rw [if_pos h1]; simp [List.filter, h1, el_eq i h]
  · rw [if_neg h1]; simp [List.filter, h1]
theorem upto_len (p : Int) (i : Nat) : (upto p i).length ≤ i := by
  unfold upto
  rw [List.length_map]
  exact Nat.le_trans (List.length_filter_le _ _) (by simp)
theorem mem_upto (p : Int) (i k : Nat) (h : k < 4294967296) (hi : i ≤ 256) : (⟨k, h⟩ : Cd) ∈ upto p i ↔ k < i ∧ isOp p k = true := by
  unfold upto
  simp only [List.mem_map, List.mem_filter, List.mem_range]
  constructor
  · rintro ⟨a, ⟨h1, h2⟩, e⟩
    rw [el_eq a (by omega)] at e
    cases e
    exact ⟨h1, h2⟩
  · rintro ⟨h1, h2⟩
    exact ⟨k, ⟨h1, h2⟩, el_eq k h⟩
/-- what it means that one more is the next that is handed out -/
theorem upto_next {p : Int} {j i : Nat} {x : Cd} (hj : j ≤ 256) (hi : i < 256) (ho : isOp p i = true) (h : upto p j ++ [x] = upto p (i + 1)) :
    x.1 = i ∧ j ≤ i ∧ ∀ k, j ≤ k → k < i → isOp p k = false := by
  rw [upto_succ p i (by omega), if_pos ho] at h
  obtain ⟨h1, h2⟩ := List.append_inj' h rfl
  have hx : x = ⟨i, by omega⟩ := by simpa using h2
  refine ⟨by rw [hx], ?_, ?_⟩
  · rcases Nat.lt_or_ge i j with hl | hl
    · have := (mem_upto p j i (by omega) hj).mpr ⟨hl, ho⟩
      rw [h1] at this
      have := (mem_upto p i i (by omega) (by omega)).mp this
      omega
    · exact hl
  · intro k hk hki
    cases hc : isOp p k with
    | false => rfl
    | true =>
      have := (mem_upto p i k (by omega) (by omega)).mpr ⟨hki, hc⟩
      rw [← h1] at this
      have := (mem_upto p j k (by omega) hj).mp this
      omega
theorem upto_step {p : Int} {j i : Nat} (hj : j ≤ i) (h : ∀ k, j ≤ k → k < i → isOp p k = false) : upto p j = upto p i := by
  unfold upto
  congr 1
  induction i with
  | zero => have : j = 0 := by omega
            subst this; rfl
  | succ i ih =>
    rcases Nat.lt_or_ge j (i + 1) with h1 | h1
    · rw [List.range_succ, List.filter_append, ih (by omega) (fun k hk hki => h k hk (by omega))]
      simp [List.filter, h i (by omega) (by omega)]
    · have : j = i + 1 := by omega
      subst this; rfl

theorem grown_of_below {w w' : World} (h : Below w.heap.size w w') : w.grownBy w' none := ⟨h.os, h.tape, h.output, h.size, fun k hk _ => h.block k hk⟩
theorem grown_of_new {w w' : World} (h : New w w') : w.grownBy w' none := ⟨h.os, h.tape, h.output, h.size, fun k hk _ => h.block k hk (fun h => h)⟩

theorem codes_stops (n : Nat) (hn : 1 ≤ n) (p : Int) (B : Nat) (w : World) (hB : w.cell? ⟨B, 0, none⟩ = some (.int .u8 p)) :
    SeqStopsK Fence.wide n Try.prog 80 #[.pointer (some ⟨B, 0, none⟩)] (fun c : Cd => #[.int .u32 (c.1 : Int)]) (Below (B + 1)) (fun xs => xs = upto p 256) (fun pre => ∃ i, i < 256 ∧ isOp p i = true ∧ pre = upto p (i + 1)) 256 w := fun l J Jx W hW hJ hJx hY h0 => by
  refine callsIn_of_wp Try.func80 rfl trivial ?_ rfl
  simp only [Try.ntmps80, List.size_toArray, List.length_cons, List.length_nil, Nat.reduceAdd, Nat.reduceSub, Array.replicate_succ, Array.replicate_zero, List.push_toArray, List.append_toArray, List.nil_append, List.cons_append]
  gi_wp2
  gi_loopw [6] (fun q wr => ∃ i : Nat, q = .int .u32 i ∧ i ≤ 256 ∧ wr.cell? ⟨B, 0, none⟩ = some (.int .u8 p) ∧ w.heap.size ≤ wr.heap.size ∧ J (upto p i) wr) (fun q _ => 256 - (intOf q).toNat)
  case atStart => exact ⟨0, rfl, by omega, (hW.cell (World.block_lt_of_cell? w _ hB)).trans hB, hW.size, h0⟩
  case round =>
    obtain ⟨i, rfl, hi, hc, hsz, hj⟩ := hrel
    by_cases hlt : i < 256
    · have hF := hid (fun w => callsIn_wide (n := n - 1).2 (Find_any p i w (by omega) (by omega)))
      obtain ⟨ok, hok⟩ : ∃ ok, isOp p i = ok := ⟨_, rfl⟩
      have hus := upto_succ p i (by omega)
      rw [hok] at hus
      have hlen := upto_len p i
      obtain ⟨f, hf⟩ : ∃ f, findV p i = f := ⟨_, rfl⟩
      have hfo : f.2.2 = ok := by rw [← hf]; exact hok
      rw [hf] at hF
      obtain ⟨f1, f2, f3⟩ := f
      simp only at hfo
      subst hfo
      have HU := hid hus
      have HOK := hid hok
      clear hf hus hok
      gi_wp2
      refine ⟨trivial, (hF.out _).mono ?_⟩
      rintro e wa ⟨rfl, hn1⟩
      have hn2 := New.trans hn1 ((Upd.refl (fun _ => False) wa).alloc (.cells #[.int .i64 f1, .int .i64 f2] 82))
      have hj2 := hJ _ _ _ none hj (grown_of_new hn2) (fun r e => by cases e)
      have hc2 := hid (hn2.cell hc (fun h => h))
      have hs2 := Nat.le_trans hsz hn2.size
      clear hn1 hn2 hj hsz hc
      cases f3 with
      | true =>
        obtain ⟨fn, tmps, assign, body, hy, hR⟩ := hY (upto p i) ⟨i, by omega⟩ _ hj2 (by omega)
        gi_wp2
        refine hR.mono ?_
        rintro e W3 (⟨rfl, hJ3, hk3⟩ | ⟨rfl, hJx3⟩)
        · have hc3 := (hk3.cell (p := ⟨B, 0, none⟩) (Nat.lt_succ_self B)).trans hc2.out
          have hs3 := Nat.le_trans hs2 hk3.size
          gi_wp2
          go_roundw
          case rel => exact ⟨i + 1, by go_num, by omega, hc3, hs3, by rw [HU.out]; exact hJ3⟩
          case measure => simp [intOf]; omega
        · gi_wp2
          refine bodyPost_ret (results_none rfl _ _ _) rfl ?_
          exact ⟨⟨_, rfl⟩, .inr ⟨upto p (i + 1), ⟨i, hlt, HOK.out, rfl⟩, by rw [HU.out]; exact hJx3⟩⟩
      | false =>
        have hc3 := hc2.out
        gi_wp2
        refine ⟨fun _ h => (by cases h), ?_⟩
        gi_wp2
        go_roundw
        case rel => exact ⟨i + 1, by go_num, by omega, hc3, hs2, by rw [HU.out]; simpa using hj2⟩
        case measure => simp [intOf]; omega
    · obtain rfl : i = 256 := by omega
      gi_wp2
      go_end0
      exact ⟨⟨_, rfl⟩, .inl ⟨upto p 256, rfl, hj⟩⟩
end Go.Proofs.Ytlmimlnflcfccaa
