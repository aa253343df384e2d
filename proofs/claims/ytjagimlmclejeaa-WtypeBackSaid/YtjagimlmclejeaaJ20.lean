/-
  Slices of numbers that can be read; slices.Equal of these and of types.
-/
import Derived.Test.YtjagimlmclejeaaJ15
import Derived.Test.YtjagimlmclejeaaJ19
import Derived.Deep.QuietTactic
import Derived.BigQuiet
namespace Go.Proofs.Ytjagimlmclejeaa
open Go.RowKit Go.Proofs.Own
set_option maxRecDepth 100000
set_option maxHeartbeats 2000000

/-- a slice of numbers that can be read -/
def RdM (k : IntKind) (w : World) (v : Value) (ns : List Nat) : Prop :=
  ∃ a cap, v = .slice a ns.length cap ∧ ns.length ≤ cap ∧ (a = none → cap = 0) ∧ (ns ≠ [] → ∃ b o, a = some ⟨b, o, none⟩ ∧ ∀ i (h : i < ns.length), w.cell? ⟨b, o + i, none⟩ = some (.int k (ns[i] : Nat)))
theorem RdM.shape {k : IntKind} {w : World} {v : Value} {ns : List Nat} (h : RdM k w v ns) : ∃ a cap, v = .slice a ns.length cap := by
  obtain ⟨a, cap, h, -⟩ := h
  exact ⟨a, cap, h⟩
theorem RdM.nil (k : IntKind) (w : World) : RdM k w (.slice none 0 0) [] := ⟨none, 0, rfl, Nat.le_refl _, fun _ => rfl, fun h => absurd rfl h⟩
theorem RdM.upd {S : Nat → Prop} {k : IntKind} {w w' : World} {v : Value} {ns : List Nat} (h : RdM k w v ns) (hu : Upd S w w') (hn : ∀ k, v.ownBlock = some k → ¬ S k) : RdM k w' v ns := by
  obtain ⟨a, cap, rfl, h1, h2, h3⟩ := h
  refine ⟨a, cap, rfl, h1, h2, fun hb => ?_⟩
  obtain ⟨b, o, rfl, hc⟩ := h3 hb
  exact ⟨b, o, rfl, fun i hi => hu.cell (hc i hi) (hn b rfl)⟩
theorem RdM.new {k : IntKind} {w w' : World} {v : Value} {ns : List Nat} (h : RdM k w v ns) (hu : New w w') : RdM k w' v ns := h.upd hu (fun _ _ h => h)
/-- a literal, behind what made it -/
theorem RdM.lit (k : IntKind) (w : World) (ns : List Nat) (e : TypeId) (c : Nat) (hc : ns.length ≤ c) (cs : List Value) (hcs : cs.take ns.length = ns.map (fun n => .int k (n : Nat))) (_hl : ns.length ≤ cs.length) :
    RdM k (w.alloc (.cells cs.toArray e)) (.slice (some ⟨w.heap.size, 0, none⟩) ns.length c) ns := by
  refine ⟨_, c, rfl, hc, (fun h => by cases h), fun _ => ⟨w.heap.size, 0, rfl, fun i hi => ?_⟩⟩
  have h1 : cs[i]? = some (.int k (ns[i] : Nat)) := by
    have := congrArg (·[i]?) hcs
    simp only [List.getElem?_map, List.getElem?_eq_getElem hi, Option.map_some] at this
    rwa [List.getElem?_take_of_lt hi] at this
  have h2 : (w.alloc (.cells cs.toArray e)).heap[w.heap.size]? = some (.cells cs.toArray e) := heap_alloc_new w _
  rw [cell_of_row _ w.heap.size (0 + i) _ e (0, 0) h2, Nat.zero_add]
  simpa using h1
theorem rdmOfRow {k : IntKind} {w : World} {a : Option Addr} {len cap : Nat} {zs : List Int} (hk : ∀ n, (Lit.int k n).wf = true → 0 ≤ n ∧ n < 4294967296) (h : IsRow k w a len cap zs) :
    ∃ ns : List Nat, RdM k w (.slice a len cap) ns ∧ ns.length = len ∧ len ≤ 9223372036854775807 ∧ ∀ n ∈ ns, n < 4294967296 := by
  rcases h with ⟨rfl, rfl, rfl, rfl⟩ | ⟨x, rfl, hl, hm, hz, hcell, hwz⟩
  · exact ⟨[], RdM.nil k w, rfl, by decide, by simp⟩
  · have hlen : ((zs.take len).map Int.toNat).length = len := by simp; omega
    refine ⟨(zs.take len).map Int.toNat, ⟨some x, cap, by rw [hlen], by rw [hlen]; exact hl, (fun h => by cases h), fun hne => ?_⟩, hlen, ?_, ?_⟩
    · have h0 : 0 < len := by
        rw [← hlen]
        exact List.length_pos_iff.mpr hne
      obtain ⟨b, o, s⟩ := x
      have hc := hcell 0 (by omega)
      have hs : s = none := by simpa [Addr.add] using World.cell?_spot hc
      subst hs
      refine ⟨b, o, rfl, fun i hi => ?_⟩
      rw [hlen] at hi
      have hi' : i < zs.length := by omega
      have := hcell i hi'
      have hw := hk _ (hwz zs[i] (List.getElem_mem _))
      have e : zs.getD i 0 = zs[i] := by simp [List.getD_eq_getElem?_getD, hi']
      rw [e] at this
      rw [Addr.add_lit] at this
      rw [this]
      simp only [List.getElem_map, List.getElem_take]
      congr 2
      omega
    · have : maxLen = 9223372036854775807 := by decide
      omega
    · intro n hn
      simp only [List.mem_map] at hn
      obtain ⟨z, hz, rfl⟩ := hn
      have := hk _ (hwz z (List.mem_of_mem_take hz))
      omega

theorem take_eq_step {α : Type} {xs ys : List α} {i : Nat} {x : α} (h : xs.take i = ys.take i) (hx : xs[i]? = some x) (hy : ys[i]? = some x) : xs.take (i + 1) = ys.take (i + 1) := by
  rw [List.take_add_one, List.take_add_one, h, hx, hy]
theorem get_ne {α : Type} {xs ys : List α} {i : Nat} {x y : α} (hx : xs[i]? = some x) (hy : ys[i]? = some y) (h : x ≠ y) : xs ≠ ys := by
  intro e
  subst e
  rw [hx] at hy
  exact h (Option.some.inj hy)

def IsNew (b : Bool) (w : World) (e : Ending) (w' : World) : Prop := e = .returned (.bool b) ∧ New w w'

theorem new_drewN (w : World) (n : Nat) : New w (w.drewN n) := by
  induction n with
  | zero => exact Upd.refl _ _
  | succ n ih => exact ih.drew

theorem eqV_any (x y : Value) (xs ys : List UInt8) (w : World) (hx : Rd w x xs) (hy : Rd w y ys) (h1 : xs.length ≤ 9223372036854775807) (h2 : ys.length ≤ 9223372036854775807) :
    Calls Try.prog 42 #[x, y] w (IsNew (decide (xs = ys)) w) := by
  obtain ⟨a, c, rfl, hc, hn, hcell⟩ := hx
  obtain ⟨a2, c2, rfl, hc2, hn2, hcell2⟩ := hy
  by_cases hl : xs.length = ys.length
  · have hb : (((xs.length : Nat) : Int) != ((ys.length : Nat) : Int)) = false := by simp [hl]
    go_enter Try.func42, Try.ntmps42
    go_wp2_with fail
    go_loopw [13] (fun c wr => ∃ i : Nat, c = .int .i64 i ∧ i ≤ xs.length ∧ xs.take i = ys.take i ∧ New w wr) (fun c _ => xs.length - (intOf c).toNat)
    case atStart => exact ⟨0, rfl, by omega, by simp, Upd.refl _ _⟩
    case round =>
      obtain ⟨i, rfl, hi1, hi2, hnw⟩ := hrel
      by_cases hi : i < xs.length
      · have hi' : i < ys.length := by omega
        obtain ⟨b, o, rfl, hce⟩ := hcell (by intro h; subst h; simp at hi)
        obtain ⟨b2, o2, rfl, hce2⟩ := hcell2 (by intro h; subst h; simp at hi')
        have hc1 := hnw.cell (hce i hi) (fun h => h)
        have hc2' := hnw.cell (hce2 i hi') (fun h => h)
        have hg1 : xs[i]? = some xs[i] := List.getElem?_eq_getElem hi
        have hg2 : ys[i]? = some ys[i] := List.getElem?_eq_getElem hi'
        generalize hxe : xs[i] = p at *
        generalize hye : ys[i] = q at *
        have HG1 := hid hg1
        have HG2 := hid hg2
        have HI := hid hi2
        have HW := hid hnw
        clear hg1 hg2 hi2 hxe hye hce hce2 hcell hcell2 hnw
        unfold cb at hc1 hc2'
        by_cases hpq : p = q
        · subst hpq
          have hb2 : (((p.toNat : Nat) : Int) != ((p.toNat : Nat) : Int)) = false := by simp
          go_wp2_with fail
          go_quiet (fail)
          go_wp2_with fail
          go_roundw
          case rel => exact ⟨i + 1, by go_num, by omega, take_eq_step HI.out HG1.out HG2.out, New.trans HW.out (new_drewN _ _)⟩
          case measure => simp [intOf]; omega
        · have hb2 : (((p.toNat : Nat) : Int) != ((q.toNat : Nat) : Int)) = true := by simp; exact fun h => hpq (UInt8.toNat_inj.mp (by omega))
          have HP := hid hpq
          go_wp2_with fail
          go_quiet (fail)
          go_wp2_with fail
          go_ret
          exact ⟨by rw [show decide (xs = ys) = false from decide_eq_false (get_ne HG1.out HG2.out HP.out)]; rfl, New.trans HW.out (new_drewN _ _)⟩
      · have e : i = xs.length := by omega
        subst e
        have HI : Hid (xs = ys) := by
          show xs = ys
          rw [hl] at hi2
          rw [← hl, List.take_length, hl, List.take_length] at hi2
          exact hi2
        clear hi2 hcell hcell2
        have HW := hid hnw
        clear hnw
        go_wp2_with fail
        go_ret
        exact ⟨by rw [show decide (xs = ys) = true from decide_eq_true HI.out]; rfl, HW.out⟩
  · have hb : (((xs.length : Nat) : Int) != ((ys.length : Nat) : Int)) = true := by simp; omega
    have HL := hid hl
    clear hl
    go_enter Try.func42, Try.ntmps42
    go_wp2_with fail
    go_ret
    exact ⟨by rw [show decide (xs = ys) = false from decide_eq_false (fun h => HL.out (congrArg List.length h))]; rfl, Upd.refl _ _⟩
end Go.Proofs.Ytjagimlmclejeaa
