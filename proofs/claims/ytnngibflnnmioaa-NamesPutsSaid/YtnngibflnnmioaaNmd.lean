/-
  Names put: the program's bytes.
-/
import Derived.Test.YtnngibflnnmioaaNmb
import Derived.Test.YtnngibflnnmioaaAps
import Derived.Test.YtnngibflnnmioaaLst
import Derived.Test.YtnngibflnnmioaaLebP
namespace Go.Proofs.Ytnngibflnnmioaa
open Go.RowKit Go.Proofs.Leb Go.Proofs.Own
set_option maxRecDepth 100000
set_option maxHeartbeats 4000000

def txB (s : ByteArray) : List UInt8 := encU s.size 0 ++ lb s
def nmB (x : Nat × ByteArray) : List UInt8 := encU x.1 0 ++ txB x.2
def nmsB (xs : List (Nat × ByteArray)) : List UInt8 := encU xs.length 0 ++ xs.flatMap nmB
def lcB (x : Nat × List (Nat × ByteArray)) : List UInt8 := encU x.1 0 ++ nmsB x.2
def lcsB (ls : List (Nat × List (Nat × ByteArray))) : List UInt8 := encU ls.length 0 ++ ls.flatMap lcB
def rowB (r : UInt8) (c : List UInt8) : List UInt8 := r :: (encU c.length 0 ++ c)
def nsB (N : Nms) : List UInt8 := (if N.hm = true then rowB 0 (txB N.md) else []) ++ ((if N.hf = true then rowB 1 (nmsB N.fs) else []) ++ (if N.hl = true then rowB 2 (lcsB N.ls) else []))
/-- lists that are no more than are put -/
def PzN (xs : List (Nat × ByteArray)) : Prop := xs.length ≤ 30 ∧ ∀ x ∈ xs, x.1 < 4294967296 ∧ x.2.size ≤ 3000
def PzL (ls : List (Nat × List (Nat × ByteArray))) : Prop := ls.length ≤ 30 ∧ ∀ x ∈ ls, x.1 < 4294967296 ∧ PzN x.2
theorem flatMap_len {α : Type} (f : α → List UInt8) (k : Nat) : ∀ xs : List α, (∀ x ∈ xs, (f x).length ≤ k) → (xs.flatMap f).length ≤ xs.length * k
  | [], _ => by simp
  | x :: r, h => by
    have h1 := h x (by simp)
    have h2 := flatMap_len f k r (fun y hy => h y (by simp [hy]))
    simp only [List.flatMap_cons, List.length_append, List.length_cons, Nat.succ_mul]
    omega
theorem txB_len {s : ByteArray} (h : s.size ≤ 3000) : (txB s).length ≤ 3005 := by
  unfold txB
  have := encU_five (v := s.size) (by omega)
  have := lb_len s
  simp only [List.length_append]
  omega
theorem nmB_len {x : Nat × ByteArray} (h : x.1 < 4294967296 ∧ x.2.size ≤ 3000) : (nmB x).length ≤ 3010 := by
  unfold nmB
  have := encU_five h.1
  have := txB_len h.2
  simp only [List.length_append]
  omega
theorem nms_flat {xs : List (Nat × ByteArray)} (h : PzN xs) (i : Nat) : ((xs.take i).flatMap nmB).length ≤ 90300 := by
  have := flatMap_len nmB 3010 (xs.take i) (fun x hx => nmB_len (h.2 x (List.mem_of_mem_take hx)))
  have h1 := h.1
  have h2 : (xs.take i).length ≤ xs.length := List.length_take_le' i xs
  have : (xs.take i).length * 3010 ≤ 30 * 3010 := Nat.mul_le_mul_right _ (by omega)
  omega
theorem nmsB_len {xs : List (Nat × ByteArray)} (h : PzN xs) : (nmsB xs).length ≤ 90305 := by
  unfold nmsB
  have := encU_five (v := xs.length) (by have := h.1; omega)
  have := nms_flat h xs.length
  rw [List.take_length] at this
  simp only [List.length_append]
  omega
theorem lcB_len {x : Nat × List (Nat × ByteArray)} (h : x.1 < 4294967296 ∧ PzN x.2) : (lcB x).length ≤ 90310 := by
  unfold lcB
  have := encU_five h.1
  have := nmsB_len h.2
  simp only [List.length_append]
  omega
theorem lcs_flat {ls : List (Nat × List (Nat × ByteArray))} (h : PzL ls) (i : Nat) : ((ls.take i).flatMap lcB).length ≤ 2709300 := by
  have := flatMap_len lcB 90310 (ls.take i) (fun x hx => lcB_len (h.2 x (List.mem_of_mem_take hx)))
  have h1 := h.1
  have h2 : (ls.take i).length ≤ ls.length := List.length_take_le' i ls
  have : (ls.take i).length * 90310 ≤ 30 * 90310 := Nat.mul_le_mul_right _ (by omega)
  omega
theorem lcsB_len {ls : List (Nat × List (Nat × ByteArray))} (h : PzL ls) : (lcsB ls).length ≤ 2709305 := by
  unfold lcsB
  have := encU_five (v := ls.length) (by have := h.1; omega)
  have := lcs_flat h ls.length
  rw [List.take_length] at this
  simp only [List.length_append]
  omega

/-- what lies in blocks B is there, and apart from what v owns -/
def ApB (B : Nat → Prop) (w : World) (v : Value) : Prop := ∀ k, B k → k < w.heap.size ∧ v.ownBlock ≠ some k
theorem ApB.adds {B : Nat → Prop} {w w' : World} {v v' : Value} (h : ApB B w v) (ha : Adds w w' v v') : ApB B w' v' := fun k hk => by
  have := h k hk
  refine ⟨Nat.lt_of_lt_of_le this.1 ha.upd.size, ?_⟩
  rcases ha.at' with e | ⟨j, e, hj⟩
  · rw [e]; exact this.2
  · rw [e]; intro he; cases he; omega
theorem ApB.new {B : Nat → Prop} {w w' : World} {v : Value} (h : ApB B w v) (hn : New w w') : ApB B w' v := fun k hk => ⟨Nat.lt_of_lt_of_le (h k hk).1 hn.size, (h k hk).2⟩
theorem rdE_adds {α : Type} {n : Nat} {E : ERep α} (hE : E.Ok) {w w' : World} {B : Nat → Prop} {v u u' : Value} {xs : List α} (h : RdE n E w B v xs) (ha : Adds w w' u u') (hp : ApB B w u) : RdE n E w' B v xs :=
  h.upd hE ha.upd (fun k hk e => (hp k hk).2 e)
theorem hpA1 {w w' : World} {g : Nat} {o : Obj} {v v' : Value} (h : w.heap[g]? = some o) (ha : Adds w w' v v') (hne : v.ownBlock ≠ some g) : w'.heap[g]? = some o :=
  (ha.upd.block g (Array.getElem?_eq_some_iff.1 h).1 (fun e => hne e)).trans h
theorem blk_adds {w w' : World} {g : Nat} {x y : Value} {t : TypeId} {v v' : Value} (h : Blk w g x y t) (ha : Adds w w' v v') (hne : v.ownBlock ≠ some g) : Blk w' g x y t := hpA1 h ha hne
theorem ne_adds {w w' : World} {g : Nat} {v v' : Value} (ha : Adds w w' v v') (hne : v.ownBlock ≠ some g) (hg : g < w.heap.size) : v'.ownBlock ≠ some g := by
  rcases ha.at' with e | ⟨j, e, hj⟩
  · rw [e]; exact hne
  · rw [e]; intro he; cases he; omega
theorem putText_any (v : Value) (bs : List UInt8) (s : ByteArray) (w : World) (hb : Bytes w v bs) (h1 : bs.length ≤ 10000000) (h2 : s.size ≤ 10000000) :
    Calls Try.prog 51 #[v, .string s] w (Post w v (bs ++ txB s)) := by
  have HP := hid (putU_any v bs s.size w (by omega) (by omega) hb)
  have h5 := encU_five (v := s.size) (by omega)
  have hlen : (bs ++ encU s.size 0).length + s.size ≤ 1000000000 := by simp; omega
  clear hb
  go_enter Try.func51, Try.ntmps51
  go_wp2_with fail
  refine HP.out.mono ?_
  rintro e w0 ⟨v0, rfl, hb0, ha0⟩
  go_wp2_with (at_builtin; refine hold ?_)
  refine appS (.tmp 9) (.tmp 10) hb0 hlen rfl rfl rfl rfl ?_
  intro v1 w1 hb1 ha1
  obtain ⟨L, hL⟩ : ∃ L, bs ++ txB s = L := ⟨_, rfl⟩
  have HB : Hid (Bytes w1 v1 L) := by show Bytes _ _ _; rw [← hL]; unfold txB; rw [← List.append_assoc]; exact hb1
  have HA := hid (ha0.trans ha1)
  have HL := hid hL
  clear hL
  obtain ⟨a, c, rfl⟩ := HB.out.rd.shape
  clear hb0 ha0 hb1 ha1 hlen
  go_wp2_with fail
  go_ret
  refine ⟨_, rfl, ?_, HA.out⟩
  rw [HL.out]
  exact HB.out
theorem putNames_any {B : Nat → Prop} (v l : Value) (bs : List UInt8) (xs : List (Nat × ByteArray)) (w : World) (hb : Bytes w v bs) (hl : RdE 2 (E2 FN) w B l xs) (hp : ApB B w v) (h1 : bs.length ≤ 5000000) (hx : PzN xs) :
    Calls Try.prog 52 #[v, l] w (Post w v (bs ++ nmsB xs)) := by
  have HP := hid (putU_any v bs xs.length w (by have := hx.1; omega) (by omega) hb)
  have h5 := encU_five (v := xs.length) (by have := hx.1; omega)
  obtain ⟨a, c, rfl⟩ := hl.shape
  have HL := hid hl
  have HA := hid hp
  have HX := hid hx
  have hx1 := hx.1
  clear hl hp hb hx
  go_enter Try.func52, Try.ntmps52
  go_wp2_with fail
  refine HP.out.mono ?_
  rintro e w0 ⟨v0, rfl, hb0, ha0⟩
  go_wp2_with fail
  go_loopw [0, 14] (fun b c wr => ∃ i : Nat, c = .int .i64 i ∧ i ≤ xs.length ∧ Bytes wr b (bs ++ (encU xs.length 0 ++ (xs.take i).flatMap nmB)) ∧ Adds w wr v b) (fun _ c _ => xs.length - (intOf c).toNat)
  case atStart => exact ⟨0, rfl, by omega, by simpa using hb0, ha0⟩
  case round =>
    obtain ⟨i, rfl, hi1, hbr, har⟩ := hrel
    clear hb0 ha0
    have hrd := rdE_adds (E2.ok FN.ok) HL.out har HA.out
    by_cases hi : i < xs.length
    · obtain ⟨a', c', e, hat⟩ := e2_at hrd
      cases e
      obtain ⟨b, o, u, rfl, hc0, hc1, hu⟩ := hat i hi
      have hu : u = .string xs[i].2 := hu
      subst hu
      have hg1 : xs[i]? = some xs[i] := List.getElem?_eq_getElem hi
      have hsz := HX.out.2 _ (List.getElem_mem hi)
      generalize hxe : xs[i] = x at *
      obtain ⟨n, s⟩ := x
      simp only at hc0 hc1 hsz
      have HG := hid hg1
      clear hg1 hxe hat hrd
      have hfl := nms_flat HX.out i
      obtain ⟨pre, hpre⟩ : ∃ pre, bs ++ (encU xs.length 0 ++ (xs.take i).flatMap nmB) = pre := ⟨_, rfl⟩
      have hlen : pre.length ≤ 6000000 := by rw [← hpre]; simp only [List.length_append]; omega
      rw [hpre] at hbr
      have HPR := hid hpre
      clear hpre hfl
      obtain ⟨ab, cb', rfl⟩ := hbr.rd.shape
      have HB := hid hbr
      have HR := hid har
      clear hbr har
      obtain ⟨w1, hw1⟩ : ∃ w1, wr.alloc (.cells #[.int .u32 (n : Nat), .string s] 102) = w1 := ⟨_, rfl⟩
      have hbk : Blk w1 wr.heap.size (.int .u32 (n : Nat)) (.string s) 102 := by rw [← hw1]; exact Blk.mk
      have hn1 : New wr w1 := by rw [← hw1]; exact (Upd.refl _ _).alloc _
      have HNE : Hid ((Value.slice ab pre.length cb').ownBlock ≠ some wr.heap.size) := fun e => absurd (World.ownsRow.lt HB.out _ e).2 (Nat.lt_irrefl _)
      have HBK := hid hbk
      have HN1 := hid hn1
      have HPU := hid (fun v bs w (h : Bytes w v bs) (hl : bs.length ≤ 100000000) => putU_any v bs n w (by omega) hl h)
      have HPT := hid (fun v bs w (h : Bytes w v bs) (hl : bs.length ≤ 10000000) => putText_any v bs s w h hl (by omega))
      have h6 := encU_five (v := n) hsz.1
      have HG2 : Hid (bs ++ (encU xs.length 0 ++ (xs.take (i + 1)).flatMap nmB) = (pre ++ encU n 0) ++ txB s) := by
        show _ = _
        rw [List.take_add_one, HG.out, ← HPR.out]
        simp [nmB]
      have HW := hid hw1
      clear hw1 hbk hn1
      have hwr : IntKind.u64.wrap (n : Int) = n := IntWalk.u64_in _ (by omega)
      go_wp2_with fail
      rw [HW.out]
      clear HW hc0 hc1
      have hn : (fun w' => Blk w' wr.heap.size (.int .u32 (n : Nat)) (.string s) 102) w1.drew := HBK.out
      have hbc : Bytes w1.drew (Value.slice ab pre.length cb') pre := (HB.out.new HN1.out).new (Upd.refl _ _).drew
      have had : Adds w w1.drew v (Value.slice ab pre.length cb') := (HR.out.then HN1.out).then (Upd.refl _ _).drew
      refine wp_region_noPanic ?_
      refine wp_region_held_drew (S := (fun w' => Blk w' wr.heap.size (.int .u32 (n : Nat)) (.string s) 102)) (by kernel_rfl) (by first | exact hn | exact (Upd.refl _ _).drew | exact Upd.drew (by assumption)) (fun hn => ?_)
      generalize w1.drew = wd at *
      refine wpAnyH_take (i := 0) (oi := { dst := some 18, op := Op.move (Operand.tmp 0), type := 39, pos := "names.go:160", after := #[], guard := none }) (v := ?v32x1) rfl (by kernel_rfl) (by kernel_rfl) (by kernel_rfl) (fun _ _ _ h => h) (Or.inl ⟨by rfl, ?y32x1⟩) hn ?r32x1
      case y32x1 => (intro wS hS; (try go_simp); (try with_reducible rfl))
      try simp only [Act.put, List.setIfInBounds_toArray, List.set_cons_zero, List.set_cons_succ]
      refine wpAnyH_take (i := 1) (oi := { dst := some 19, op := Op.fieldAddr 102 (Operand.tmp 6) 0, type := 0, pos := "names.go:160", after := #[], guard := none }) (v := ?v32x2) rfl (by kernel_rfl) (by kernel_rfl) (by kernel_rfl) (fun _ _ _ h => h) (Or.inl ⟨by rfl, ?y32x2⟩) hn ?r32x2
      case y32x2 => (intro wS hS; (try go_simp); (try with_reducible rfl))
      try simp only [Act.put, List.setIfInBounds_toArray, List.set_cons_zero, List.set_cons_succ]
      refine wpAnyH_take (i := 2) (oi := { dst := some 20, op := Op.load 22 (Operand.tmp 19), type := 22, pos := "names.go:160", after := #[{ on := 1, ground := Ground.data }], guard := none }) (v := ?v32x3) rfl (by kernel_rfl) (by kernel_rfl) (by kernel_rfl) (fun _ _ _ h => h) (Or.inl ⟨by rfl, ?y32x3⟩) hn ?r32x3
      case y32x3 => (intro wS hS; have c0 := Blk.c0 hS; (try go_simp); (try with_reducible rfl))
      try simp only [Act.put, List.setIfInBounds_toArray, List.set_cons_zero, List.set_cons_succ]
      refine wpAnyH_take (i := 3) (oi := { dst := some 21, op := Op.convert 22 79 (Operand.tmp 20), type := 79, pos := "names.go:160", after := #[{ on := 2, ground := Ground.data }], guard := none }) (v := ?v32x4) rfl (by kernel_rfl) (by kernel_rfl) (by kernel_rfl) (fun _ _ _ h => h) (Or.inl ⟨by rfl, ?y32x4⟩) hn ?r32x4
      case y32x4 => (intro wS hS; (try go_simp); (try with_reducible rfl))
      try simp only [Act.put, List.setIfInBounds_toArray, List.set_cons_zero, List.set_cons_succ]
      refine wpAnyH_take (i := 5) (oi := { dst := some 23, op := Op.fieldAddr 102 (Operand.tmp 6) 1, type := 0, pos := "names.go:160", after := #[], guard := none }) (v := ?v32x5) rfl (by kernel_rfl) (by kernel_rfl) (by kernel_rfl) (fun _ _ _ h => h) (Or.inl ⟨by rfl, ?y32x5⟩) hn ?r32x5
      case y32x5 => (intro wS hS; (try go_simp); (try with_reducible rfl))
      try simp only [Act.put, List.setIfInBounds_toArray, List.set_cons_zero, List.set_cons_succ]
      refine wpAnyH_take (i := 6) (oi := { dst := some 24, op := Op.load 9 (Operand.tmp 23), type := 9, pos := "names.go:160", after := #[{ on := 5, ground := Ground.data }], guard := none }) (v := ?v32x6) rfl (by kernel_rfl) (by kernel_rfl) (by kernel_rfl) (fun _ _ _ h => h) (Or.inl ⟨by rfl, ?y32x6⟩) hn ?r32x6
      case y32x6 => (intro wS hS; have c1 := Blk.c1 hS; (try go_simp); (try with_reducible rfl))
      try simp only [Act.put, List.setIfInBounds_toArray, List.set_cons_zero, List.set_cons_succ]
      refine wpAnyH_ready (rs := [4]) (by kernel_rfl) (by simp) ?_
      refine AllReadyH.cons (o := { dst := some 22, op := Op.call { callee := Callee.value (Operand.func 41), args := #[Operand.tmp 18, Operand.tmp 21], argTypes := #[39, 79] }, type := 39, pos := "names.go:160", after := #[{ on := 0, ground := Ground.data }, { on := 3, ground := Ground.data }], guard := none }) rfl (fun K hK => ?_) AllReadyH.nil
      go_simp
      with_reducible refine (HPU.out _ _ _ hbc (by omega)).mono ?_
      rintro e wq ⟨vq, rfl, hbq, haq⟩
      go_wp2_with fail
      have hne := ne_adds haq HNE.out (Blk.lt hn)
      have hn := blk_adds hn haq HNE.out
      have had := had.trans haq
      refine hK.out _ _ (by first | exact hn | exact Upd.alloc hn _) (fun hn => ?_)
      clear hK K
      try simp only [Act.put, List.setIfInBounds_toArray, List.set_cons_zero, List.set_cons_succ]
      refine wpAnyH_ready (rs := [7]) (by kernel_rfl) (by simp) ?_
      refine AllReadyH.cons (o := { dst := some 25, op := Op.call { callee := Callee.value (Operand.func 51), args := #[Operand.tmp 22, Operand.tmp 24], argTypes := #[39, 9] }, type := 39, pos := "names.go:160", after := #[{ on := 4, ground := Ground.data }, { on := 6, ground := Ground.data }, { on := 4, ground := Ground.chain }], guard := none }) rfl (fun K hK => ?_) AllReadyH.nil
      go_simp
      with_reducible refine (HPT.out _ _ _ hbq (by simp only [List.length_append]; omega)).mono ?_
      rintro e wt ⟨vt, rfl, hbt, hat⟩
      go_wp2_with fail
      have hn := blk_adds hn hat hne
      have had := had.trans hat
      refine hK.out _ _ (by first | exact hn | exact Upd.alloc hn _) (fun hn => ?_)
      clear hK K
      try simp only [Act.put, List.setIfInBounds_toArray, List.set_cons_zero, List.set_cons_succ]
      refine wpAnyH_take (i := 8) (oi := { dst := some 0, op := Op.assign (Operand.tmp 25), type := 39, pos := "names.go:160", after := #[{ on := 7, ground := Ground.data }, { on := 7, ground := Ground.chain }, { on := 0, ground := Ground.phase }, { on := 1, ground := Ground.phase }, { on := 2, ground := Ground.phase }, { on := 3, ground := Ground.phase }, { on := 4, ground := Ground.phase }, { on := 5, ground := Ground.phase }, { on := 6, ground := Ground.phase }, { on := 7, ground := Ground.phase }], guard := none }) (v := ?v32x7) rfl (by kernel_rfl) (by kernel_rfl) (by kernel_rfl) (fun _ _ _ h => h) (Or.inl ⟨by rfl, ?y32x7⟩) hn ?r32x7
      case y32x7 => (intro wS hS; (try go_simp); (try with_reducible rfl))
      try simp only [Act.put, List.setIfInBounds_toArray, List.set_cons_zero, List.set_cons_succ]
      refine wpAnyH_done (by kernel_rfl) ?_ _
      refine NoPanic.normal ?_
      have HBT := hid hbt
      have HAD := hid had
      clear hbt had hn hbc hbq hat haq
      go_wp2_with fail
      go_roundw
      case rel => exact ⟨i + 1, by go_num, by omega, by rw [HG2.out]; exact HBT.out, HAD.out⟩
      case measure => (simp [intOf]; omega)
    · have e : i = xs.length := by omega
      subst e
      rw [List.take_length] at hbr
      clear hrd
      obtain ⟨L, hL⟩ : ∃ L, bs ++ nmsB xs = L := ⟨_, rfl⟩
      have hbr2 := hbr
      change Bytes wr _ (bs ++ nmsB xs) at hbr2
      rw [hL] at hbr2
      have HLL := hid hL
      clear hL hbr
      obtain ⟨ab, cb', rfl⟩ := hbr2.rd.shape
      have HB := hid hbr2
      have HR := hid har
      clear hbr2 har
      go_wp2_with fail
      go_ret
      refine ⟨_, rfl, ?_, HR.out⟩
      rw [HLL.out]
      exact HB.out
end Go.Proofs.Ytnngibflnnmioaa
