/-
  The small words of the texts: boxes, structs being filled, answers.
-/
import Derived.Test.YtjagimlmclejeaaJ16
import Derived.Test.YtjagimlmclejeaaJ17
namespace Go.Proofs.Ytjagimlmclejeaa
open Go.RowKit Go.Proofs.Leb Go.Proofs.Own
set_option maxRecDepth 100000
set_option maxHeartbeats 4000000

def SameP (q : Prop) (w : World) (e : Ending) (w' : World) : Prop := ∃ b, e = .returned (.bool b) ∧ (b = true ↔ q) ∧ New w w'
theorem lb_inj {a b : ByteArray} (h : lb a = lb b) : a = b := by
  unfold lb at h
  exact ByteArray.ext (Array.toList_inj.mp h)

theorem tl_inj {a b : ByteArray} (h : a.toList = b.toList) : a = b := by
  rw [ByteArray.toList_eq, ByteArray.toList_eq] at h
  exact lb_inj h
theorem box1 (w : World) (cs : Array Value) (t : TypeId) (i : Nat) : (w.alloc (.cells cs t)).cell? ⟨w.heap.size, i, none⟩ = cs[i]? := by
  rw [cell_of_row _ w.heap.size i _ t (0, 0) (hp_new rfl)]
theorem box21 (w : World) (cs : Array Value) (t : TypeId) (o : Obj) (i : Nat) : ((w.alloc (.cells cs t)).alloc o).cell? ⟨w.heap.size, i, none⟩ = cs[i]? := by
  rw [cell_of_row _ w.heap.size i _ t (0, 0) (hp_old (by simp) (hp_new rfl))]
theorem box22 (w : World) (cs : Array Value) (t : TypeId) (o : Obj) (i : Nat) : ((w.alloc o).alloc (.cells cs t)).cell? ⟨w.heap.size + 1, i, none⟩ = cs[i]? := by
  rw [cell_of_row _ (w.heap.size + 1) i _ t (0, 0) (hp_new (by simp))]

theorem hp1 {w w' : World} {g : Nat} {o : Obj} (h : w.heap[g]? = some o) (hn : New w w') : w'.heap[g]? = some o :=
  (hn.block g (Array.getElem?_eq_some_iff.1 h).1 (fun h => h)).trans h
theorem cellAt {w : World} {g : Nat} {cs : Array Value} {t : TypeId} (h : w.heap[g]? = some (.cells cs t)) (i : Nat) {v : Value} (hv : cs[i]? = some v) : w.cell? ⟨g, i, none⟩ = some v := by
  rw [cell_of_row _ g i _ t (0, 0) h]; exact hv
/-- memory that was made since -/
def Since8 (w w' : World) : Nat → Prop := fun k => w.heap.size ≤ k ∧ k < w'.heap.size
theorem fresh_ne {w0 : World} {v : Value} {g : Nat} (hf : Fresh w0 v) (hg : g < w0.heap.size) : v.ownBlock ≠ some g := fun e => by
  have := hf g e
  omega
theorem hpB {w w' : World} {g : Nat} {o : Obj} {v v' : Value} (h : w.heap[g]? = some o) (ha : Adds w w' v v') (hne : v.ownBlock ≠ some g) : w'.heap[g]? = some o :=
  (ha.upd.block g (Array.getElem?_eq_some_iff.1 h).1 (fun e => hne e)).trans h
theorem run_setRow {w : World} {g : Nat} {old cs : Array Value} {t : TypeId} (hg : w.heap[g]? = some (.cells old t)) : Upd (fun k => k = g) w (w.setRow g cs) ∧ (w.setRow g cs).heap[g]? = some (.cells cs t) := by
  refine ⟨⟨rfl, rfl, rfl, ?_, ?_⟩, setRow_heap w g old cs t (0, 0) hg⟩
  · unfold World.setRow
    simp
  · intro k _ hn
    unfold World.setRow
    simp only [Array.getElem?_modify]
    rw [if_neg (fun e => hn e.symm)]
theorem step_store_row {P : Program} {ops : Array Oper} {o : Oper} {a : Act} {Q : Exit → Act → World → Prop} {w : World} {K : Act → World → Prop} {E : Prop} (ty : TypeId) (x y : Operand) (hwt : Region.wanted o (yielded ops a.tmps) = true) (ho : o.op = .store ty x y)
    (g : Nat) (cs : Array Value) (hx : a.eval x = .pointer (some ⟨g, 0, none⟩)) (hy : a.eval y = .agg cs)
    (t : TypeId) (old : Array Value) (hg : w.heap[g]? = some (.cells old t (0, 0))) (hi : (P.info? ty).map (·.size) = some cs.size)
    (hold : old.size = cs.size) (h1 : cs.all (·.oneCell') = true)
    (h : K (a.put o.dst undef) (w.setRow g cs)) : if Region.wanted o (yielded ops a.tmps) = true then Oper.wp P o a w K Q else E := by
  rw [if_pos hwt]
  exact wp_store_row ty x y ho g cs hx hy t old hg hi hold h1 h
/-- two blocks behind what was there: the first is a box of what came in; the second is being filled -/
def Fil (w : World) (c1 : Array Value) (T1 : TypeId) (w' : World) : Prop := New w w' ∧ w'.heap[w.heap.size]? = some (.cells c1 T1) ∧ w.heap.size + 2 ≤ w'.heap.size
section
variable {w a b : World} {c1 c2 : Array Value} {T1 T2 : TypeId}
theorem Fil.mk0 : Fil w c1 T1 ((w.alloc (.cells c1 T1)).alloc (.cells c2 T2)) := ⟨((Upd.refl _ _).alloc _).alloc _, hp_old (by simp) (hp_new rfl), by simp⟩
theorem Fil.mk2 : ((w.alloc (.cells c1 T1)).alloc (.cells c2 T2)).heap[w.heap.size + 1]? = some (.cells c2 T2) := hp_new (by simp)
theorem Fil.new (h : Fil w c1 T1 a) (k : New a b) : Fil w c1 T1 b := ⟨New.trans h.1 k, hp1 h.2.1 k, Nat.le_trans h.2.2 k.size⟩
theorem Fil.at1 (h : Fil w c1 T1 a) (i : Nat) {v : Value} (hv : c1[i]? = some v) : a.cell? ⟨w.heap.size, i, none⟩ = some v := cellAt h.2.1 i hv
/-- writes to memory made since -/
theorem Fil.upd {S : Nat → Prop} (h : Fil w c1 T1 a) (k : Upd S a b) (hS : ∀ i, S i → w.heap.size + 1 ≤ i) : Fil w c1 T1 b := by
  have hz := h.2.2
  exact ⟨Upd.trans h.1 k (fun i hi e => absurd (hS i e) (by omega)), (k.block _ (by omega) (fun e => absurd (hS _ e) (by omega))).trans h.2.1, Nat.le_trans hz k.size⟩
/-- the second one, filled -/
theorem Fil.set (h : Fil w c1 T1 a) (k : Upd (fun k => k = w.heap.size + 1) a b) : Fil w c1 T1 b := h.upd k (fun i e => by omega)
end
theorem boxStep {K : Act → World → Prop} {a : Act} {W : World} {o : Obj} (h : ∀ W2, New W W2 → W2.heap[W.heap.size]? = some o → K a W2) : K a (W.alloc o) :=
  h _ ((Upd.refl _ _).alloc _) (hp_new rfl)
/-- blocks of two types are two -/
theorem ty_neq {a : World} {g k : Nat} {c d : Array Value} {s t : TypeId} (h : a.heap[g]? = some (.cells c s)) (h2 : a.heap[k]? = some (.cells d t)) (hn : s ≠ t) : g ≠ k := fun e => by
  rw [e, h2] at h
  injection h with h
  injection h with _ h
  exact hn h.symm
end Go.Proofs.Ytjagimlmclejeaa

namespace Go.Proofs.Ytjagimlmclejeaa
open Go.RowKit Go.Proofs.Leb Go.Proofs.Own
set_option maxRecDepth 100000
set_option maxHeartbeats 2000000

/-- a row of types that the call owns -/
def VBytes (w : World) (v : Value) (bs : List UInt8) : Prop := w.ownsRow 0 39 1 v bs.length (bs.map cb)
theorem infoV : (Try.prog.info? 39).map (fun i => (i.zero, i.size, i.bytes)) = some (some (.int .u8 0), 1, 1) := by kernel_rfl
theorem VBytes.rd {w : World} {v : Value} {bs : List UInt8} (h : VBytes w v bs) : Rd w v bs := by
  obtain ⟨h1, h2⟩ := h
  rcases h2 with ⟨rfl, hn⟩ | ⟨g, cap, cur, rfl, _, hg, hn, hm, hs, ht⟩
  · have : bs = [] := List.eq_nil_of_length_eq_zero hn
    subst this
    exact Rd.nil w
  · refine ⟨_, cap, rfl, hn, (fun h => by cases h), fun _ => ⟨g, 0, rfl, fun i hi => ?_⟩⟩
    have hown : w.ownsRow 0 39 1 (.slice (some ⟨g, 0, none⟩) bs.length cap) bs.length (bs.map cb) := ⟨h1, .inr ⟨g, cap, cur, rfl, Nat.zero_le _, hg, hn, hm, hs, ht⟩⟩
    have := hown.cells (g := g) rfl i (cb bs[i]) (by simp [hi])
    rwa [Addr.add_lit] at this
theorem VBytes.upd {S : Nat → Prop} {w w' : World} {v : Value} {bs : List UInt8} (h : VBytes w v bs) (hu : Upd S w w') (hn : ∀ k, v.ownBlock = some k → ¬ S k) : VBytes w' v bs := ownsRow_upd h hu hn
theorem VBytes.new {w w' : World} {v : Value} {bs : List UInt8} (h : VBytes w v bs) (hu : New w w') : VBytes w' v bs := ownsRow_new h hu
theorem VBytes.block {w : World} {v : Value} {bs : List UInt8} (h : VBytes w v bs) (k : Nat) (hk : v.ownBlock = some k) : ∃ cur, w.heap[k]? = some (.cells cur 39) := by
  obtain ⟨-, h2⟩ := h
  rcases h2 with ⟨rfl, -⟩ | ⟨g, cap, cur, rfl, _, hg, -⟩
  · cases hk
  · have : g = k := Option.some.inj hk
    subst this
    exact ⟨cur, hg⟩
theorem VBytes.lt {w : World} {v : Value} {bs : List UInt8} (h : VBytes w v bs) (k : Nat) (hk : v.ownBlock = some k) : k < w.heap.size := (World.ownsRow.lt h k hk).2
theorem VBytes.one {w : World} {v : Value} {bs : List UInt8} (x : UInt8) (hw : w.ownsRow 0 39 1 v (bs.length + 1) (bs.map cb ++ [.int .u8 x.toNat])) : VBytes w v (bs ++ [x]) := by
  unfold VBytes
  rw [List.length_append, List.map_append]
  exact hw
/-- append of one type, at a goal that is held -/
theorem appV {ops : Array Oper} {rest : List Oper} {o : Oper} {a : Act} {Q : Exit → Act → World → Prop} {w : World} (s x : Operand) (u : UInt8) {v : Value} {d : List UInt8}
    (hb : VBytes w v d) (hl : d.length ≤ 1000000000) (hgd : o.guard = none) (ho : o.op = .call { callee := .builtin .append, args := #[s, x], argTypes := #[33, 33] })
    (hs : a.eval s = v) (hx : a.eval x = .slice (some ⟨w.heap.size, 0, none⟩) 1 1)
    (h : ∀ v' w', VBytes w' v' (d ++ [u]) → Adds w w' v v' → wpList Try.prog ops Q rest (a.put o.dst v') w') :
    Hold (wpList Try.prog ops Q (o :: rest) a (w.alloc (.cells #[.int .u8 u.toNat] 39))) :=
  held_append1 33 39 1 (.int .u8 0) infoV Try.underlying33 rfl s x hgd ho 0 v _ _ hs hb (.int .u8 u.toNat) hx rfl (by unfold maxLen; omega) (by omega) (Nat.zero_le _)
    fun v' w' h1 h2 => h v' w' (VBytes.one u h1) h2

theorem lawValsV_any (s : ByteArray) (w : World) (hs : s.size ≤ 100000) :
    Calls Try.prog 40 #[.string s] w fun e w' => ∃ v', e = .returned v' ∧ VBytes w' v' (lb s) ∧ New w w' ∧ Fresh w v' ∧ (∀ k, v'.ownBlock = some k → k < w'.heap.size) := by
  go_enter Try.func40, Try.ntmps40
  go_wp2_with fail
  go_loopw [3, 4] (fun b c wr => ∃ i : Nat, c = .int .i64 i ∧ i ≤ s.size ∧ VBytes wr b ((lb s).take i) ∧ New w wr ∧ Fresh w b) (fun _ c _ => s.size - (intOf c).toNat)
  case atStart => exact ⟨0, rfl, by omega, World.ownsRow_nil w 0 _ 1, Upd.refl _ _, fun k hk => by cases hk⟩
  case round =>
    obtain ⟨i, rfl, hi1, hb, hn, hf⟩ := hrel
    have HN := hid hn
    have HF := hid hf
    clear hn hf
    by_cases hi : i < s.size
    · have hg := lb_get s i hi
      obtain ⟨x, hx⟩ : ∃ x, s[i] = x := ⟨_, rfl⟩
      rw [hx] at hg
      have hx2 : s[i].toNat = x.toNat := by rw [hx]
      have HG := hid hg
      have hlen : ((lb s).take i).length ≤ 100000 := by simp [lb_len]; omega
      clear hg hx
      go_wp2_with (at_builtin; refine hold ?_)
      refine appV (.tmp 11) (.tmp 15) x hb (by omega) rfl rfl rfl rfl ?_
      intro v' w1 hb1 ha1
      have hn1 := Upd.newAdds HN.out HF.out ha1
      have hf1 := Fresh.adds HF.out HN.out.size ha1
      clear ha1 hb
      go_wp2_with fail
      go_roundw
      case rel =>
        refine ⟨i + 1, by go_num, by omega, ?_, hn1, hf1⟩
        rw [List.take_add_one, HG.out]
        exact hb1
      case measure => simp [intOf]; omega
    · have e : i = s.size := by omega
      subst e
      rw [← lb_len, List.take_length] at hb
      obtain ⟨ab, cb', rfl⟩ := hb.rd.shape
      have HB := hid hb
      have HT := hid (fun k (hk : (Value.slice ab (lb s).length cb').ownBlock = some k) => (World.ownsRow.lt hb k hk).2)
      clear hb
      go_wp2_with fail
      go_ret
      exact ⟨_, rfl, HB.out, HN.out, HF.out, HT.out⟩
theorem lawVals_any (s : ByteArray) (w : World) (hs : s.size ≤ 100000) :
    Calls Try.prog 40 #[.string s] w fun e w' => ∃ v', e = .returned v' ∧ Rd w' v' (lb s) ∧ New w w' ∧ Fresh w v' ∧ (∀ k, v'.ownBlock = some k → k < w'.heap.size) :=
  (lawValsV_any s w hs).mono fun _ _ ⟨v', h1, h2, h3⟩ => ⟨v', h1, h2.rd, h3⟩
end Go.Proofs.Ytjagimlmclejeaa
