/-
  An instruction's bytes: the program's Put.
-/
import Derived.Test.YtnngibflnnmioaaRgt
import Derived.Test.YtnngibflnnmioaaOpV
import Derived.Test.YtnngibflnnmioaaAps
import Derived.Test.YtnngibflnnmioaaLit
namespace Go.Proofs.Ytnngibflnnmioaa
open Go.RowKit Go.Proofs.Leb Go.Proofs.Own
set_option maxRecDepth 100000
set_option maxHeartbeats 8000000

/-- the bytes of what an op has -/
def putB (s : Int) (m : Ins) : List UInt8 :=
  if s = 1 then btB m.k m.t.toNat m.i.toNat else if s = 2 then encU m.x.toNat 0 else if s = 3 ∨ s = 5 then encU m.x.toNat 0 ++ encU m.y.toNat 0
  else if s = 4 then encU m.li.length 0 ++ (m.li.flatMap (encU · 0) ++ encU m.x.toNat 0) else if s = 6 then [0] else if s = 7 then [0, 0] else if s = 8 then encU m.x.toNat 0 ++ [0]
  else if s = 9 ∨ s = 10 then encS m.n 0 else if s = 11 ∨ s = 12 ∨ s = 13 ∨ s = 14 then lb m.raw else if s = 15 then [UInt8.ofNat m.lane.toNat]
  else if s = 16 then encU m.x.toNat 0 ++ (encU m.y.toNat 0 ++ [UInt8.ofNat m.lane.toNat]) else if s = 17 then lb m.ty else if s = 18 then encU m.ty.size 0 ++ lb m.ty else []
theorem hpA {w w' : World} {g : Nat} {o : Obj} {v v' : Value} (h : w.heap[g]? = some o) (ha : Adds w w' v v') (hne : v.ownBlock ≠ some g) : w'.heap[g]? = some o :=
  (ha.upd.block g (Array.getElem?_eq_some_iff.1 h).1 (fun e => hne e)).trans h
theorem bytes_lt {w : World} {v : Value} {bs : List UInt8} (h : Bytes w v bs) : ∀ k, v.ownBlock = some k → k < w.heap.size := fun k hk => (World.ownsRow.lt h k hk).2
theorem apart_new {w : World} {v : Value} {bs : List UInt8} (h : Bytes w v bs) (n c : Nat) : Apart v (.slice (some ⟨w.heap.size, 0, none⟩) n c) := by
  intro k hk e
  have := bytes_lt h k hk
  cases e
  exact absurd this (Nat.lt_irrefl _)
theorem flat_len (li : List Nat) (h : ∀ z ∈ li, z < 4294967296) (hl : li.length ≤ 1000) : (li.flatMap (encU · 0)).length ≤ 5000 := by
  have key : ∀ l : List Nat, (∀ z ∈ l, z < 4294967296) → (l.flatMap (encU · 0)).length ≤ 5 * l.length := by
    intro l
    induction l with
    | nil => intro _; simp
    | cons a r ih =>
      intro h
      have h1 := encU_five (h a (by simp))
      have h2 := ih (fun z hz => h z (by simp [hz]))
      simp only [List.flatMap_cons, List.length_append, List.length_cons]
      omega
  have := key li h
  omega
/-- a literal of one number, made: readable, apart from what is added to, in memory that is there -/
structure Lit1 (w : World) (v : Value) (g x : Nat) : Prop where
  r : RdM .u32 w (.slice (some ⟨g, 0, none⟩) 1 1) [x]
  a : Apart v (.slice (some ⟨g, 0, none⟩) 1 1)
  l : g < w.heap.size
theorem lit_made {w : World} {v : Value} {bs : List UInt8} (h : Bytes w v bs) (x : Nat) : Lit1 (w.alloc (.cells #[.int .u32 (x : Nat)] 22)) v w.heap.size x :=
  ⟨RdM.lit .u32 w [x] 22 1 (by simp) [.int .u32 (x : Nat)] rfl (by simp), apart_new h _ _, by simp⟩
theorem lit_adds {w w' : World} {v v' : Value} {g x : Nat} (h : Lit1 w v g x) (ha : Adds w w' v v') : Lit1 w' v' g x :=
  ⟨h.r.adds ha h.a, h.a.adds ha (fun k e => by cases e; exact h.l), Nat.lt_of_lt_of_le h.l ha.upd.size⟩
structure Lit2 (w : World) (v : Value) (g x y : Nat) : Prop where
  r : RdM .u32 w (.slice (some ⟨g, 0, none⟩) 2 2) [x, y]
  a : Apart v (.slice (some ⟨g, 0, none⟩) 2 2)
  l : g < w.heap.size
theorem lit_made2 {w : World} {v : Value} {bs : List UInt8} (h : Bytes w v bs) (x y : Nat) : Lit2 (w.alloc (.cells #[.int .u32 (x : Nat), .int .u32 (y : Nat)] 22)) v w.heap.size x y :=
  ⟨RdM.lit .u32 w [x, y] 22 2 (by simp) [.int .u32 (x : Nat), .int .u32 (y : Nat)] rfl (by simp), apart_new h _ _, by simp⟩
theorem lit2_adds {w w' : World} {v v' : Value} {g x y : Nat} (h : Lit2 w v g x y) (ha : Adds w w' v v') : Lit2 w' v' g x y :=
  ⟨h.r.adds ha h.a, h.a.adds ha (fun k e => by cases e; exact h.l), Nat.lt_of_lt_of_le h.l ha.upd.size⟩
theorem Lit2.new {w w' : World} {v : Value} {g x y : Nat} (h : Lit2 w v g x y) (hn : New w w') : Lit2 w' v g x y := ⟨h.r.new hn, h.a, Nat.lt_of_lt_of_le h.l hn.size⟩
structure LitB (w : World) (v : Value) (g b : Nat) : Prop where
  r : Rd w (.slice (some ⟨g, 0, none⟩) 1 1) [UInt8.ofNat b]
  a : Apart v (.slice (some ⟨g, 0, none⟩) 1 1)
  l : g < w.heap.size
theorem lit_madeB {w : World} {v : Value} {bs : List UInt8} (h : Bytes w v bs) (b : Nat) (hb : b < 256) : LitB (w.alloc (.cells #[.int .u8 (b : Nat)] 5)) v w.heap.size b :=
  ⟨by have hr := Rd.lit w [UInt8.ofNat b] 5; simp only [List.map_cons, List.map_nil, cb_of _ hb] at hr; exact hr, apart_new h _ _, by simp⟩
theorem litB_adds {w w' : World} {v v' : Value} {g b : Nat} (h : LitB w v g b) (ha : Adds w w' v v') : LitB w' v' g b :=
  ⟨h.r.adds ha h.a, h.a.adds ha (fun k e => by cases e; exact h.l), Nat.lt_of_lt_of_le h.l ha.upd.size⟩
theorem LitB.new {w w' : World} {v : Value} {g b : Nat} (h : LitB w v g b) (hn : New w w') : LitB w' v g b := ⟨h.r.new hn, h.a, Nat.lt_of_lt_of_le h.l hn.size⟩
theorem shapes2 (s : Int) : s = 1 ∨ s = 2 ∨ s = 3 ∨ s = 4 ∨ s = 5 ∨ s = 6 ∨ s = 7 ∨ s = 8 ∨ s = 9 ∨ s = 10 ∨ s = 11 ∨ s = 12 ∨ s = 13 ∨ s = 14 ∨ s = 15 ∨ s = 16 ∨ s = 17 ∨ s = 18 ∨
    (s ≠ 1 ∧ s ≠ 2 ∧ s ≠ 3 ∧ s ≠ 4 ∧ s ≠ 5 ∧ s ≠ 6 ∧ s ≠ 7 ∧ s ≠ 8 ∧ s ≠ 9 ∧ s ≠ 10 ∧ s ≠ 11 ∧ s ≠ 12 ∧ s ≠ 13 ∧ s ≠ 14 ∧ s ≠ 15 ∧ s ≠ 16 ∧ s ≠ 17 ∧ s ≠ 18) := by omega

theorem pPut_any (p c t i x y lane : Nat) (k n : Int) (li : List Nat) (raw ty : ByteArray) (l u v : Value) (bs : List UInt8) (w : World) (hp : p < 256) (hc : c < 4294967296) (ht : t < 256) (hi : i < 4294967296) (hx : x < 4294967296) (hy : y < 4294967296)
    (hlane : lane < 256) (n1 : -9223372036854775808 ≤ n) (n2 : n ≤ 9223372036854775807) (hli : ∀ z ∈ li, z < 4294967296) (s1 : li.length ≤ 1000) (s2 : raw.size ≤ 1000) (s3 : ty.size ≤ 1000) (hbs : bs.length ≤ 1000)
    (hb : Bytes w v bs) (h1 : RdM .u32 w l li) (h3 : Rd w u (lb ty)) (a1 : Apart v l) (a3 : Apart v u) (t1 : ∀ k, l.ownBlock = some k → k < w.heap.size) (t3 : ∀ k, u.ownBlock = some k → k < w.heap.size) (hs : 0 ≤ (shapeV p c).1) :
    Calls Try.prog 11 #[pI ⟨p, c, k, t, i, x, y, li, n, raw, lane, ty⟩ l u, v] w (Post w v (bs ++ (opBytes p c ++ putB (shapeV p c).1 ⟨p, c, k, t, i, x, y, li, n, raw, lane, ty⟩))) := by
  have HF := hid (fun w => Find_any p c w (by omega) (by omega))
  have hag := find_shape p c (by omega)
  have hN := (Upd.refl (fun _ => False) w).alloc (.cells (cells ⟨p, c, k, t, i, x, y, li, n, raw, lane, ty⟩ l u) 34)
  have HOP := hid (Put_any v bs p c _ hp hc (by omega) (hb.new hN))
  have hob : (opBytes p c).length ≤ 6 := by
    unfold opBytes
    have := encU_five (v := c) hc
    split
    · simp
    · simp; omega
  generalize opBytes p c = ob at *
  generalize findV p c = f at *
  generalize shapeV p c = r at *
  obtain ⟨f1, f2, f3⟩ := f
  obtain ⟨s, ln⟩ := r
  simp only at *
  obtain ⟨b1, b2⟩ := hag
  simp only at b1 b2
  have hf1 : s = f1 := by
    rw [show f3 = true from b1.trans (decide_eq_true hs), if_pos rfl] at b2
    exact b2.1.symm
  subst hf1
  clear b1 b2 hs
  have HE := hid (List.append_assoc bs ob)
  have hlen : (bs ++ ob).length ≤ 1006 := by simp; omega
  obtain ⟨pre, hpre⟩ : ∃ pre, bs ++ ob = pre := ⟨_, rfl⟩
  rw [hpre] at HOP HE hlen
  clear hpre hob
  obtain ⟨w0, hw0⟩ : ∃ w0, w.alloc (.cells (cells ⟨p, c, k, t, i, x, y, li, n, raw, lane, ty⟩ l u) 34) = w0 := ⟨_, rfl⟩
  rw [hw0] at HOP hN
  have hbox : Box w0 w.heap.size ⟨p, c, k, t, i, x, y, li, n, raw, lane, ty⟩ l u := by rw [← hw0]; exact hp_new rfl
  have hlt := bytes_lt hb
  have HBX := hid hbox
  have HN := hid hN
  have H1 := hid (h1.new hN)
  have H3 := hid (h3.new hN)
  have HA1 := hid a1
  have HA3 := hid a3
  have HT1 := hid (fun k h => Nat.lt_of_lt_of_le (t1 k h) hN.size)
  have HT3 := hid (fun k h => Nat.lt_of_lt_of_le (t3 k h) hN.size)
  have HNE : Hid (v.ownBlock ≠ some w.heap.size) := fun h => absurd (hlt _ h) (Nat.lt_irrefl _)
  have hsz0 : w.heap.size < w0.heap.size := by rw [← hw0]; simp
  have HSZ := hid hsz0
  have HLI := hid hli
  obtain ⟨al, cl, rfl⟩ := h1.shape
  obtain ⟨au, cu, rfl⟩ := h3.shape
  unfold cells at hw0
  have HW := hid hw0
  clear hw0 hbox hN h1 h3 a1 a3 t1 t3 hb hlt hli hsz0
  unfold pI
  simp only
  go_enter Try.func11, Try.ntmps11
  go_wp2_with fail
  rw [HW.out]
  refine HOP.out.mono ?_
  rintro e wa ⟨va, rfl, hba, haa⟩
  have hbx1 := hpA HBX.out haa HNE.out
  have h1a := H1.out.adds haa HA1.out
  have h3a := H3.out.adds haa HA3.out
  have a1a := HA1.out.adds haa HT1.out
  have a3a := HA3.out.adds haa HT3.out
  have y0 : wa.cell? ⟨w.heap.size, 0, none⟩ = some (.int .u8 p) := cellAt hbx1 0 rfl
  have y1 : wa.cell? ⟨w.heap.size, 1, none⟩ = some (.int .u32 c) := cellAt hbx1 1 rfl
  have HBA := hid hba
  have HAA := hid (Adds.ahead HN.out haa)
  have HX1 := hid hbx1
  have G1 := hid h1a
  have G3 := hid h3a
  have GA1 := hid a1a
  have GA3 := hid a3a
  have hnea : va.ownBlock ≠ some w.heap.size := by
    intro e
    rcases haa.at' with e2 | ⟨j, e2, hj⟩
    · exact HNE.out (e2.symm.trans e)
    · rw [e2] at e; cases e; have := HSZ.out; omega
  have HNA := hid hnea
  have GT1 := hid HT1.out
  have GSZ := hid haa.upd.size
  clear hba haa hbx1 h1a h3a a1a a3a hnea HOP HW HBX HN H1 H3 HA1 HA3 HT1 HT3 HNE HSZ
  obtain ⟨aa, ca, rfl⟩ := HBA.out.rd.shape
  go_wp2_with fail
  refine (HF.out _).mono ?_
  rintro e wb ⟨rfl, hnb⟩
  clear y0 y1
  obtain ⟨wc, hwc⟩ : ∃ wc, wb.alloc (.cells #[.int .i64 s, .int .i64 f2] 66) = wc := ⟨_, rfl⟩
  have hnc : New wa wc := by rw [← hwc]; exact hnb.alloc _
  have y0 : wc.cell? ⟨wb.heap.size, 0, none⟩ = some (.int .i64 s) := by rw [← hwc]; exact cellAt (hp_new rfl) 0 rfl
  have HB := hid (HBA.out.new hnc)
  have HA := hid (HAA.out.then hnc)
  have HX := hid (hp1 HX1.out hnc)
  have HL := hid (G1.out.new hnc)
  have HL2 : Hid (∀ k, (Value.slice al li.length cl).ownBlock = some k → k < wc.heap.size) := fun k h => Nat.lt_of_lt_of_le (Nat.lt_of_lt_of_le (GT1.out k h) GSZ.out) hnc.size
  have HU := hid (G3.out.new hnc)
  clear hnb hnc HBA HAA HX1 G1 G3 HF
  rcases shapes2 s with rfl | rfl | rfl | rfl | rfl | rfl | rfl | rfl | rfl | rfl | rfl | rfl | rfl | rfl | rfl | rfl | rfl | rfl | ⟨h1, h2, h3, h4, h5, h6, h7, h8, h9, h10, h11, h12, h13, h14, h15, h16, h17, h18⟩
  · -- 1
    rw [show putB 1 ⟨p, c, k, t, i, x, y, li, n, raw, lane, ty⟩ = btB k t i from rfl]
    have z2 : wc.cell? ⟨w.heap.size, 2, none⟩ = some (.int .i64 k) := cellAt HX.out 2 rfl
    have z3 : wc.cell? ⟨w.heap.size, 3, none⟩ = some (.int .u8 t) := cellAt HX.out 3 rfl
    have z4 : wc.cell? ⟨w.heap.size, 4, none⟩ = some (.int .u32 i) := cellAt HX.out 4 rfl
    have HC := hid (btPut_any k t i _ pre wc ht hi HB.out (by omega))
    go_wp2_with fail
    refine HC.out.mono ?_
    rintro e wf ⟨vf, rfl, hbf, haf⟩
    have haf := HA.out.trans haf
    clear z2 z3 z4
    go_wp2_with fail
    go_ret
    refine ⟨_, rfl, ?_, haf⟩
    rw [← HE.out]
    exact hbf
  · -- 2
    rw [show putB 2 ⟨p, c, k, t, i, x, y, li, n, raw, lane, ty⟩ = encU x 0 from rfl]
    have z5 : wc.cell? ⟨w.heap.size, 5, none⟩ = some (.int .u32 x) := cellAt HX.out 5 rfl
    obtain ⟨wl, hwl⟩ : ∃ wl, wc.alloc (.cells #[.int .u32 (x : Nat)] 22) = wl := ⟨_, rfl⟩
    have hnl : New wc wl := by rw [← hwl]; exact (Upd.refl _ _).alloc _
    have hrl : RdM .u32 wl (.slice (some ⟨wc.heap.size, 0, none⟩) 1 1) [x] := by rw [← hwl]; exact RdM.lit .u32 wc [x] 22 1 (by simp) [.int .u32 (x : Nat)] rfl (by simp)
    have HC := hid (putNums_any _ _ pre [x] wl (HB.out.new hnl) hrl (apart_new HB.out _ _) (by omega) (by simp) (by intro z hz; simp at hz; omega))
    have HNL := hid hnl
    clear hnl hrl
    go_wp2_with fail
    refine HC.out.mono ?_
    rintro e wf ⟨vf, rfl, hbf, haf⟩
    have haf := HA.out.trans (Adds.ahead HNL.out haf)
    clear z5 hwl
    simp only [List.flatMap_cons, List.flatMap_nil, List.append_nil] at hbf
    go_wp2_with fail
    go_ret
    refine ⟨_, rfl, ?_, haf⟩
    rw [← HE.out]
    exact hbf
  · -- 3
    rw [show putB 3 ⟨p, c, k, t, i, x, y, li, n, raw, lane, ty⟩ = encU x 0 ++ encU y 0 from rfl]
    have z5 : wc.cell? ⟨w.heap.size, 5, none⟩ = some (.int .u32 x) := cellAt HX.out 5 rfl
    have z6 : wc.cell? ⟨w.heap.size, 6, none⟩ = some (.int .u32 y) := cellAt HX.out 6 rfl
    obtain ⟨wl, hwl⟩ : ∃ wl, wc.alloc (.cells #[.int .u32 (x : Nat), .int .u32 (y : Nat)] 22) = wl := ⟨_, rfl⟩
    have hnl : New wc wl := by rw [← hwl]; exact (Upd.refl _ _).alloc _
    have hrl : RdM .u32 wl (.slice (some ⟨wc.heap.size, 0, none⟩) 2 2) [x, y] := by rw [← hwl]; exact RdM.lit .u32 wc [x, y] 22 2 (by simp) [.int .u32 (x : Nat), .int .u32 (y : Nat)] rfl (by simp)
    have HC := hid (putNums_any _ _ pre [x, y] wl (HB.out.new hnl) hrl (apart_new HB.out _ _) (by omega) (by simp) (by intro z hz; simp at hz; omega))
    have HNL := hid hnl
    clear hnl hrl
    go_wp2_with fail
    refine HC.out.mono ?_
    rintro e wf ⟨vf, rfl, hbf, haf⟩
    have haf := HA.out.trans (Adds.ahead HNL.out haf)
    clear z5 z6 hwl
    simp only [List.flatMap_cons, List.flatMap_nil, List.append_nil] at hbf
    go_wp2_with fail
    go_ret
    refine ⟨_, rfl, ?_, haf⟩
    rw [← HE.out]
    exact hbf
  · -- 4
    rw [show putB 4 ⟨p, c, k, t, i, x, y, li, n, raw, lane, ty⟩ = encU li.length 0 ++ (li.flatMap (encU · 0) ++ encU x 0) from rfl]
    have q5 : Hid (wc.cell? ⟨w.heap.size, 5, none⟩ = some (.int .u32 x)) := cellAt HX.out 5 rfl
    have q7 : Hid (wc.cell? ⟨w.heap.size, 7, none⟩ = some (.slice al li.length cl)) := cellAt HX.out 7 rfl
    have hn : Upd (fun k => (Value.slice aa pre.length ca).ownBlock = some k) wc wc.drew := (Upd.refl _ _).drew
    have had : Adds wc wc.drew (.slice aa pre.length ca) (.slice aa pre.length ca) := (Adds.refl _ _).then ((Upd.refl _ _).drew)
    have hbc : Bytes wc.drew (.slice aa pre.length ca) pre := HB.out.new ((Upd.refl _ _).drew)
    have HPU := hid (fun (v : Value) (bs : List UInt8) (x : Nat) (w : World) => putU_any v bs x w)
    have HPN := hid (fun (v l : Value) (bs : List UInt8) (ns : List Nat) (w : World) => putNums_any v l bs ns w)
    have hx5 := encU_five hx
    have hy5 := encU_five hy
    have hwl : IntKind.u64.wrap (li.length : Int) = li.length := IntWalk.u64_in _ (by omega)
    have hl5 := encU_five (v := li.length) (by omega)
    have hf5 : (li.flatMap (encU · 0)).length ≤ 5000 := flat_len li HLI.out s1
    have HLT : Hid (∀ k, (Value.slice al li.length cl).ownBlock = some k → k < wc.heap.size) := HL2.out
    go_wp2_with fail
    refine wp_region_noPanic ?_
    refine wp_region_held_drew (S := (Upd (fun k => (Value.slice aa pre.length ca).ownBlock = some k) wc)) (by kernel_rfl) (by first | exact hn | exact (Upd.refl _ _).drew | exact Upd.drew (by assumption)) (fun hn => ?_)
    generalize wc.drew = wd at *
    refine wpAnyH_take (i := 0) (oi := { dst := some 46, op := Op.move (Operand.tmp 1), type := 39, pos := "instr.go:95", after := #[], guard := none }) (v := ?v37x1) rfl (by kernel_rfl) (by kernel_rfl) (by kernel_rfl) (fun _ _ _ h => h) (Or.inl ⟨by rfl, ?y37x1⟩) hn ?r37x1
    case y37x1 => (intro wS hS; (try go_simp); (try with_reducible rfl))
    try simp only [Act.put, List.setIfInBounds_toArray, List.set_cons_zero, List.set_cons_succ]
    refine wpAnyH_take (i := 1) (oi := { dst := some 47, op := Op.fieldAddr 34 (Operand.tmp 2) 4, type := 0, pos := "instr.go:95", after := #[], guard := none }) (v := ?v37x2) rfl (by kernel_rfl) (by kernel_rfl) (by kernel_rfl) (fun _ _ _ h => h) (Or.inl ⟨by rfl, ?y37x2⟩) hn ?r37x2
    case y37x2 => (intro wS hS; (try go_simp); (try with_reducible rfl))
    try simp only [Act.put, List.setIfInBounds_toArray, List.set_cons_zero, List.set_cons_succ]
    refine wpAnyH_take (i := 2) (oi := { dst := some 48, op := Op.load 23 (Operand.tmp 47), type := 23, pos := "instr.go:95", after := #[{ on := 1, ground := Ground.data }], guard := none }) (v := ?v37x3) rfl (by kernel_rfl) (by kernel_rfl) (by kernel_rfl) (fun _ _ _ h => h) (Or.inl ⟨by rfl, ?y37x3⟩) hn ?r37x3
    case y37x3 => (intro wS hS; have c0 := hS.cell q7.out (fun h => HNA.out h); (try go_simp); (try with_reducible rfl))
    try simp only [Act.put, List.setIfInBounds_toArray, List.set_cons_zero, List.set_cons_succ]
    refine wpAnyH_take (i := 3) (oi := { dst := some 49, op := Op.call { callee := Callee.builtin Builtin.len, args := #[Operand.tmp 48], argTypes := #[23] }, type := 3, pos := "instr.go:95", after := #[{ on := 2, ground := Ground.data }], guard := none }) (v := ?v37x4) rfl (by kernel_rfl) (by kernel_rfl) (by kernel_rfl) (fun _ _ _ h => h) (Or.inl ⟨by rfl, ?y37x4⟩) hn ?r37x4
    case y37x4 => (intro wS hS; (try go_simp); (try with_reducible rfl))
    try simp only [Act.put, List.setIfInBounds_toArray, List.set_cons_zero, List.set_cons_succ]
    refine wpAnyH_take (i := 4) (oi := { dst := some 50, op := Op.convert 3 79 (Operand.tmp 49), type := 79, pos := "instr.go:95", after := #[{ on := 3, ground := Ground.data }], guard := none }) (v := ?v37x5) rfl (by kernel_rfl) (by kernel_rfl) (by kernel_rfl) (fun _ _ _ h => h) (Or.inl ⟨by rfl, ?y37x5⟩) hn ?r37x5
    case y37x5 => (intro wS hS; (try go_simp); (try with_reducible rfl))
    try simp only [Act.put, List.setIfInBounds_toArray, List.set_cons_zero, List.set_cons_succ]
    refine wpAnyH_take (i := 6) (oi := { dst := some 52, op := Op.fieldAddr 34 (Operand.tmp 2) 4, type := 0, pos := "instr.go:95", after := #[], guard := none }) (v := ?v37x6) rfl (by kernel_rfl) (by kernel_rfl) (by kernel_rfl) (fun _ _ _ h => h) (Or.inl ⟨by rfl, ?y37x6⟩) hn ?r37x6
    case y37x6 => (intro wS hS; (try go_simp); (try with_reducible rfl))
    try simp only [Act.put, List.setIfInBounds_toArray, List.set_cons_zero, List.set_cons_succ]
    refine wpAnyH_take (i := 7) (oi := { dst := some 53, op := Op.load 23 (Operand.tmp 52), type := 23, pos := "instr.go:95", after := #[{ on := 6, ground := Ground.data }], guard := none }) (v := ?v37x7) rfl (by kernel_rfl) (by kernel_rfl) (by kernel_rfl) (fun _ _ _ h => h) (Or.inl ⟨by rfl, ?y37x7⟩) hn ?r37x7
    case y37x7 => (intro wS hS; have c0 := hS.cell q7.out (fun h => HNA.out h); (try go_simp); (try with_reducible rfl))
    try simp only [Act.put, List.setIfInBounds_toArray, List.set_cons_zero, List.set_cons_succ]
    refine wpAnyH_take (i := 9) (oi := { dst := some 55, op := Op.fieldAddr 34 (Operand.tmp 2) 2, type := 0, pos := "instr.go:95", after := #[], guard := none }) (v := ?v37x8) rfl (by kernel_rfl) (by kernel_rfl) (by kernel_rfl) (fun _ _ _ h => h) (Or.inl ⟨by rfl, ?y37x8⟩) hn ?r37x8
    case y37x8 => (intro wS hS; (try go_simp); (try with_reducible rfl))
    try simp only [Act.put, List.setIfInBounds_toArray, List.set_cons_zero, List.set_cons_succ]
    refine wpAnyH_take (i := 10) (oi := { dst := some 56, op := Op.load 22 (Operand.tmp 55), type := 22, pos := "instr.go:95", after := #[{ on := 9, ground := Ground.data }], guard := none }) (v := ?v37x9) rfl (by kernel_rfl) (by kernel_rfl) (by kernel_rfl) (fun _ _ _ h => h) (Or.inl ⟨by rfl, ?y37x9⟩) hn ?r37x9
    case y37x9 => (intro wS hS; have c0 := hS.cell q5.out (fun h => HNA.out h); (try go_simp); (try with_reducible rfl))
    try simp only [Act.put, List.setIfInBounds_toArray, List.set_cons_zero, List.set_cons_succ]
    refine wpAnyH_ready (rs := [5, 11]) (by kernel_rfl) (by simp) ?_
    refine AllReadyH.cons (o := { dst := some 51, op := Op.call { callee := Callee.value (Operand.func 41), args := #[Operand.tmp 46, Operand.tmp 50], argTypes := #[39, 79] }, type := 39, pos := "instr.go:95", after := #[{ on := 0, ground := Ground.data }, { on := 4, ground := Ground.data }], guard := none }) rfl (fun K hK => ?_) ?_
    · skip
      go_simp
      with_reducible refine (HPU.out _ _ li.length _ (by omega) (by omega) hbc).mono ?_
      rintro e wq ⟨vq, rfl, hbq, haq⟩
      go_wp2_with fail
      have had := had.trans haq
      have hn := had.upd
      have hbc := hbq
      refine hK.out _ _ (by first | exact hn | exact Upd.alloc hn _) (fun hn => ?_)
      clear hK K
      try simp only [Act.put, List.setIfInBounds_toArray, List.set_cons_zero, List.set_cons_succ]
      refine wpAnyH_ready (rs := [8, 11]) (by kernel_rfl) (by simp) ?_
      refine AllReadyH.cons (o := { dst := some 54, op := Op.call { callee := Callee.value (Operand.func 40), args := #[Operand.tmp 51, Operand.tmp 53], argTypes := #[39, 23] }, type := 39, pos := "instr.go:95", after := #[{ on := 5, ground := Ground.data }, { on := 7, ground := Ground.data }, { on := 5, ground := Ground.chain }], guard := none }) rfl (fun K hK => ?_) ?_
      · skip
        have hll := HL.out.upd hn (fun k h h2 => GA1.out k h2 h)
        have hap := GA1.out.adds had HLT.out
        go_simp
        with_reducible refine (HPN.out _ _ _ li _ hbc hll hap (by first | omega | (simp only [List.length_append]; omega)) (by omega) HLI.out).mono ?_
        rintro e wq ⟨vq, rfl, hbq, haq⟩
        go_wp2_with fail
        have had := had.trans haq
        have hn := had.upd
        have hbc := hbq
        refine hK.out _ _ (by first | exact hn | exact Upd.alloc hn _) (fun hn => ?_)
        clear hK K
        try simp only [Act.put, List.setIfInBounds_toArray, List.set_cons_zero, List.set_cons_succ]
        refine wpAnyH_ready (rs := [11]) (by kernel_rfl) (by simp) ?_
        refine AllReadyH.cons (o := { dst := some 57, op := Op.buildSlice 23 1 #[(0, Operand.tmp 56)], type := 23, pos := "instr.go:95", after := #[{ on := 10, ground := Ground.data }], guard := none }) rfl (fun K hK => ?_) AllReadyH.nil
        go_simp
        have hra := lit_made hbc x
        have hbc := hbc.new ((Upd.refl _ _).alloc (.cells #[.int .u32 (x : Nat)] 22))
        have had := had.then ((Upd.refl _ _).alloc (.cells #[.int .u32 (x : Nat)] 22))
        have hn := had.upd
        refine hK.out _ _ (by first | exact hn | exact Upd.alloc hn _) (fun hn => ?_)
        clear hK K
        try simp only [Act.put, List.setIfInBounds_toArray, List.set_cons_zero, List.set_cons_succ]
        refine wpAnyH_ready (rs := [12]) (by kernel_rfl) (by simp) ?_
        refine AllReadyH.cons (o := { dst := some 58, op := Op.call { callee := Callee.value (Operand.func 40), args := #[Operand.tmp 54, Operand.tmp 57], argTypes := #[39, 23] }, type := 39, pos := "instr.go:95", after := #[{ on := 8, ground := Ground.data }, { on := 11, ground := Ground.data }, { on := 8, ground := Ground.chain }], guard := none }) rfl (fun K hK => ?_) AllReadyH.nil
        go_simp
        with_reducible refine (HPN.out _ _ _ [x] _ hbc hra.r hra.a (by first | omega | (simp only [List.length_append]; omega)) (by simp) (by intro z hz; simp at hz; omega)).mono ?_
        rintro e wq ⟨vq, rfl, hbq, haq⟩
        go_wp2_with fail
        have had := had.trans haq
        have hn := had.upd
        have hbc := hbq
        refine hK.out _ _ (by first | exact hn | exact Upd.alloc hn _) (fun hn => ?_)
        clear hK K
        try simp only [Act.put, List.setIfInBounds_toArray, List.set_cons_zero, List.set_cons_succ]
        refine wpAnyH_take (i := 13) (oi := { dst := some 4, op := Op.assign (Operand.tmp 58), type := 39, pos := "instr.go:95", after := #[{ on := 12, ground := Ground.data }, { on := 12, ground := Ground.chain }, { on := 0, ground := Ground.phase }, { on := 1, ground := Ground.phase }, { on := 2, ground := Ground.phase }, { on := 3, ground := Ground.phase }, { on := 4, ground := Ground.phase }, { on := 5, ground := Ground.phase }, { on := 6, ground := Ground.phase }, { on := 7, ground := Ground.phase }, { on := 8, ground := Ground.phase }, { on := 9, ground := Ground.phase }, { on := 10, ground := Ground.phase }, { on := 11, ground := Ground.phase }, { on := 12, ground := Ground.phase }], guard := none }) (v := ?v37x10) rfl (by kernel_rfl) (by kernel_rfl) (by kernel_rfl) (fun _ _ _ h => h) (Or.inl ⟨by rfl, ?y37x10⟩) hn ?r37x10
        case y37x10 => (intro wS hS; (try go_simp); (try with_reducible rfl))
        try simp only [Act.put, List.setIfInBounds_toArray, List.set_cons_zero, List.set_cons_succ]
        refine wpAnyH_done (by kernel_rfl) ?_ _
        refine NoPanic.normal ?_
        go_wp2_with fail
        go_ret
        refine ⟨_, rfl, ?_, HA.out.trans had⟩
        rw [← HE.out]
        simp only [List.flatMap_cons, List.flatMap_nil, List.append_nil, List.append_assoc] at hbc ⊢
        exact hbc
      refine AllReadyH.cons (o := { dst := some 57, op := Op.buildSlice 23 1 #[(0, Operand.tmp 56)], type := 23, pos := "instr.go:95", after := #[{ on := 10, ground := Ground.data }], guard := none }) rfl (fun K hK => ?_) AllReadyH.nil
      go_simp
      have hra := lit_made hbc x
      have hbc := hbc.new ((Upd.refl _ _).alloc (.cells #[.int .u32 (x : Nat)] 22))
      have had := had.then ((Upd.refl _ _).alloc (.cells #[.int .u32 (x : Nat)] 22))
      have hn := had.upd
      refine hK.out _ _ (by first | exact hn | exact Upd.alloc hn _) (fun hn => ?_)
      clear hK K
      try simp only [Act.put, List.setIfInBounds_toArray, List.set_cons_zero, List.set_cons_succ]
      refine wpAnyH_ready (rs := [8]) (by kernel_rfl) (by simp) ?_
      refine AllReadyH.cons (o := { dst := some 54, op := Op.call { callee := Callee.value (Operand.func 40), args := #[Operand.tmp 51, Operand.tmp 53], argTypes := #[39, 23] }, type := 39, pos := "instr.go:95", after := #[{ on := 5, ground := Ground.data }, { on := 7, ground := Ground.data }, { on := 5, ground := Ground.chain }], guard := none }) rfl (fun K hK => ?_) AllReadyH.nil
      have hll := HL.out.upd hn (fun k h h2 => GA1.out k h2 h)
      have hap := GA1.out.adds had HLT.out
      go_simp
      with_reducible refine (HPN.out _ _ _ li _ hbc hll hap (by first | omega | (simp only [List.length_append]; omega)) (by omega) HLI.out).mono ?_
      rintro e wq ⟨vq, rfl, hbq, haq⟩
      go_wp2_with fail
      have had := had.trans haq
      have hn := had.upd
      have hbc := hbq
      have hra := lit_adds hra haq
      refine hK.out _ _ (by first | exact hn | exact Upd.alloc hn _) (fun hn => ?_)
      clear hK K
      try simp only [Act.put, List.setIfInBounds_toArray, List.set_cons_zero, List.set_cons_succ]
      refine wpAnyH_ready (rs := [12]) (by kernel_rfl) (by simp) ?_
      refine AllReadyH.cons (o := { dst := some 58, op := Op.call { callee := Callee.value (Operand.func 40), args := #[Operand.tmp 54, Operand.tmp 57], argTypes := #[39, 23] }, type := 39, pos := "instr.go:95", after := #[{ on := 8, ground := Ground.data }, { on := 11, ground := Ground.data }, { on := 8, ground := Ground.chain }], guard := none }) rfl (fun K hK => ?_) AllReadyH.nil
      go_simp
      with_reducible refine (HPN.out _ _ _ [x] _ hbc hra.r hra.a (by first | omega | (simp only [List.length_append]; omega)) (by simp) (by intro z hz; simp at hz; omega)).mono ?_
      rintro e wq ⟨vq, rfl, hbq, haq⟩
      go_wp2_with fail
      have had := had.trans haq
      have hn := had.upd
      have hbc := hbq
      refine hK.out _ _ (by first | exact hn | exact Upd.alloc hn _) (fun hn => ?_)
      clear hK K
      try simp only [Act.put, List.setIfInBounds_toArray, List.set_cons_zero, List.set_cons_succ]
      refine wpAnyH_take (i := 13) (oi := { dst := some 4, op := Op.assign (Operand.tmp 58), type := 39, pos := "instr.go:95", after := #[{ on := 12, ground := Ground.data }, { on := 12, ground := Ground.chain }, { on := 0, ground := Ground.phase }, { on := 1, ground := Ground.phase }, { on := 2, ground := Ground.phase }, { on := 3, ground := Ground.phase }, { on := 4, ground := Ground.phase }, { on := 5, ground := Ground.phase }, { on := 6, ground := Ground.phase }, { on := 7, ground := Ground.phase }, { on := 8, ground := Ground.phase }, { on := 9, ground := Ground.phase }, { on := 10, ground := Ground.phase }, { on := 11, ground := Ground.phase }, { on := 12, ground := Ground.phase }], guard := none }) (v := ?v37x11) rfl (by kernel_rfl) (by kernel_rfl) (by kernel_rfl) (fun _ _ _ h => h) (Or.inl ⟨by rfl, ?y37x11⟩) hn ?r37x11
      case y37x11 => (intro wS hS; (try go_simp); (try with_reducible rfl))
      try simp only [Act.put, List.setIfInBounds_toArray, List.set_cons_zero, List.set_cons_succ]
      refine wpAnyH_done (by kernel_rfl) ?_ _
      refine NoPanic.normal ?_
      go_wp2_with fail
      go_ret
      refine ⟨_, rfl, ?_, HA.out.trans had⟩
      rw [← HE.out]
      simp only [List.flatMap_cons, List.flatMap_nil, List.append_nil, List.append_assoc] at hbc ⊢
      exact hbc
    refine AllReadyH.cons (o := { dst := some 57, op := Op.buildSlice 23 1 #[(0, Operand.tmp 56)], type := 23, pos := "instr.go:95", after := #[{ on := 10, ground := Ground.data }], guard := none }) rfl (fun K hK => ?_) AllReadyH.nil
    go_simp
    have hra := lit_made hbc x
    have hbc := hbc.new ((Upd.refl _ _).alloc (.cells #[.int .u32 (x : Nat)] 22))
    have had := had.then ((Upd.refl _ _).alloc (.cells #[.int .u32 (x : Nat)] 22))
    have hn := had.upd
    refine hK.out _ _ (by first | exact hn | exact Upd.alloc hn _) (fun hn => ?_)
    clear hK K
    try simp only [Act.put, List.setIfInBounds_toArray, List.set_cons_zero, List.set_cons_succ]
    refine wpAnyH_ready (rs := [5]) (by kernel_rfl) (by simp) ?_
    refine AllReadyH.cons (o := { dst := some 51, op := Op.call { callee := Callee.value (Operand.func 41), args := #[Operand.tmp 46, Operand.tmp 50], argTypes := #[39, 79] }, type := 39, pos := "instr.go:95", after := #[{ on := 0, ground := Ground.data }, { on := 4, ground := Ground.data }], guard := none }) rfl (fun K hK => ?_) AllReadyH.nil
    go_simp
    with_reducible refine (HPU.out _ _ li.length _ (by omega) (by omega) hbc).mono ?_
    rintro e wq ⟨vq, rfl, hbq, haq⟩
    go_wp2_with fail
    have had := had.trans haq
    have hn := had.upd
    have hbc := hbq
    have hra := lit_adds hra haq
    refine hK.out _ _ (by first | exact hn | exact Upd.alloc hn _) (fun hn => ?_)
    clear hK K
    try simp only [Act.put, List.setIfInBounds_toArray, List.set_cons_zero, List.set_cons_succ]
    refine wpAnyH_ready (rs := [8]) (by kernel_rfl) (by simp) ?_
    refine AllReadyH.cons (o := { dst := some 54, op := Op.call { callee := Callee.value (Operand.func 40), args := #[Operand.tmp 51, Operand.tmp 53], argTypes := #[39, 23] }, type := 39, pos := "instr.go:95", after := #[{ on := 5, ground := Ground.data }, { on := 7, ground := Ground.data }, { on := 5, ground := Ground.chain }], guard := none }) rfl (fun K hK => ?_) AllReadyH.nil
    have hll := HL.out.upd hn (fun k h h2 => GA1.out k h2 h)
    have hap := GA1.out.adds had HLT.out
    go_simp
    with_reducible refine (HPN.out _ _ _ li _ hbc hll hap (by first | omega | (simp only [List.length_append]; omega)) (by omega) HLI.out).mono ?_
    rintro e wq ⟨vq, rfl, hbq, haq⟩
    go_wp2_with fail
    have had := had.trans haq
    have hn := had.upd
    have hbc := hbq
    have hra := lit_adds hra haq
    refine hK.out _ _ (by first | exact hn | exact Upd.alloc hn _) (fun hn => ?_)
    clear hK K
    try simp only [Act.put, List.setIfInBounds_toArray, List.set_cons_zero, List.set_cons_succ]
    refine wpAnyH_ready (rs := [12]) (by kernel_rfl) (by simp) ?_
    refine AllReadyH.cons (o := { dst := some 58, op := Op.call { callee := Callee.value (Operand.func 40), args := #[Operand.tmp 54, Operand.tmp 57], argTypes := #[39, 23] }, type := 39, pos := "instr.go:95", after := #[{ on := 8, ground := Ground.data }, { on := 11, ground := Ground.data }, { on := 8, ground := Ground.chain }], guard := none }) rfl (fun K hK => ?_) AllReadyH.nil
    go_simp
    with_reducible refine (HPN.out _ _ _ [x] _ hbc hra.r hra.a (by first | omega | (simp only [List.length_append]; omega)) (by simp) (by intro z hz; simp at hz; omega)).mono ?_
    rintro e wq ⟨vq, rfl, hbq, haq⟩
    go_wp2_with fail
    have had := had.trans haq
    have hn := had.upd
    have hbc := hbq
    refine hK.out _ _ (by first | exact hn | exact Upd.alloc hn _) (fun hn => ?_)
    clear hK K
    try simp only [Act.put, List.setIfInBounds_toArray, List.set_cons_zero, List.set_cons_succ]
    refine wpAnyH_take (i := 13) (oi := { dst := some 4, op := Op.assign (Operand.tmp 58), type := 39, pos := "instr.go:95", after := #[{ on := 12, ground := Ground.data }, { on := 12, ground := Ground.chain }, { on := 0, ground := Ground.phase }, { on := 1, ground := Ground.phase }, { on := 2, ground := Ground.phase }, { on := 3, ground := Ground.phase }, { on := 4, ground := Ground.phase }, { on := 5, ground := Ground.phase }, { on := 6, ground := Ground.phase }, { on := 7, ground := Ground.phase }, { on := 8, ground := Ground.phase }, { on := 9, ground := Ground.phase }, { on := 10, ground := Ground.phase }, { on := 11, ground := Ground.phase }, { on := 12, ground := Ground.phase }], guard := none }) (v := ?v37x12) rfl (by kernel_rfl) (by kernel_rfl) (by kernel_rfl) (fun _ _ _ h => h) (Or.inl ⟨by rfl, ?y37x12⟩) hn ?r37x12
    case y37x12 => (intro wS hS; (try go_simp); (try with_reducible rfl))
    try simp only [Act.put, List.setIfInBounds_toArray, List.set_cons_zero, List.set_cons_succ]
    refine wpAnyH_done (by kernel_rfl) ?_ _
    refine NoPanic.normal ?_
    go_wp2_with fail
    go_ret
    refine ⟨_, rfl, ?_, HA.out.trans had⟩
    rw [← HE.out]
    simp only [List.flatMap_cons, List.flatMap_nil, List.append_nil, List.append_assoc] at hbc ⊢
    exact hbc
  · -- 5
    rw [show putB 5 ⟨p, c, k, t, i, x, y, li, n, raw, lane, ty⟩ = encU x 0 ++ encU y 0 from rfl]
    have z5 : wc.cell? ⟨w.heap.size, 5, none⟩ = some (.int .u32 x) := cellAt HX.out 5 rfl
    have z6 : wc.cell? ⟨w.heap.size, 6, none⟩ = some (.int .u32 y) := cellAt HX.out 6 rfl
    obtain ⟨wl, hwl⟩ : ∃ wl, wc.alloc (.cells #[.int .u32 (x : Nat), .int .u32 (y : Nat)] 22) = wl := ⟨_, rfl⟩
    have hnl : New wc wl := by rw [← hwl]; exact (Upd.refl _ _).alloc _
    have hrl : RdM .u32 wl (.slice (some ⟨wc.heap.size, 0, none⟩) 2 2) [x, y] := by rw [← hwl]; exact RdM.lit .u32 wc [x, y] 22 2 (by simp) [.int .u32 (x : Nat), .int .u32 (y : Nat)] rfl (by simp)
    have HC := hid (putNums_any _ _ pre [x, y] wl (HB.out.new hnl) hrl (apart_new HB.out _ _) (by omega) (by simp) (by intro z hz; simp at hz; omega))
    have HNL := hid hnl
    clear hnl hrl
    go_wp2_with fail
    refine HC.out.mono ?_
    rintro e wf ⟨vf, rfl, hbf, haf⟩
    have haf := HA.out.trans (Adds.ahead HNL.out haf)
    clear z5 z6 hwl
    simp only [List.flatMap_cons, List.flatMap_nil, List.append_nil] at hbf
    go_wp2_with fail
    go_ret
    refine ⟨_, rfl, ?_, haf⟩
    rw [← HE.out]
    exact hbf
  · -- 6
    rw [show putB 6 ⟨p, c, k, t, i, x, y, li, n, raw, lane, ty⟩ = [0] from rfl]
    go_wp2_with (at_builtin; refine hold ?_)
    refine appB (.tmp 61) (.tmp 62) 0 HB.out rfl (by omega) rfl rfl rfl rfl ?_
    intro vf wf hbf haf
    have haf := HA.out.trans haf
    go_wp2_with fail
    go_ret
    refine ⟨_, rfl, ?_, haf⟩
    rw [← HE.out]
    exact hbf
  · -- 7
    rw [show putB 7 ⟨p, c, k, t, i, x, y, li, n, raw, lane, ty⟩ = [0, 0] from rfl]
    have hrl := Rd.lit wc [0, 0] 5
    have hbl := HB.out.new ((Upd.refl (fun _ => False) wc).alloc (.cells ([0, 0].map cb).toArray 5))
    have HRL := hid hrl
    have HBL := hid hbl
    clear hrl hbl
    go_wp2_with (at_builtin; refine hold ?_)
    refine appR (.tmp 66) (.tmp 67) HBL.out HRL.out (by simp; omega) rfl rfl rfl rfl ?_
    intro vf wf hbf haf
    have haf := HA.out.trans (Adds.ahead ((Upd.refl _ _).alloc _) haf)
    go_wp2_with fail
    go_ret
    refine ⟨_, rfl, ?_, haf⟩
    rw [← HE.out]
    exact hbf
  · -- 8
    rw [show putB 8 ⟨p, c, k, t, i, x, y, li, n, raw, lane, ty⟩ = encU x 0 ++ [0] from rfl]
    have z5 : wc.cell? ⟨w.heap.size, 5, none⟩ = some (.int .u32 x) := cellAt HX.out 5 rfl
    obtain ⟨wl, hwl⟩ : ∃ wl, wc.alloc (.cells #[.int .u32 (x : Nat)] 22) = wl := ⟨_, rfl⟩
    have hnl : New wc wl := by rw [← hwl]; exact (Upd.refl _ _).alloc _
    have hrl : RdM .u32 wl (.slice (some ⟨wc.heap.size, 0, none⟩) 1 1) [x] := by rw [← hwl]; exact RdM.lit .u32 wc [x] 22 1 (by simp) [.int .u32 (x : Nat)] rfl (by simp)
    have HC := hid (putNums_any _ _ pre [x] wl (HB.out.new hnl) hrl (apart_new HB.out _ _) (by omega) (by simp) (by intro z hz; simp at hz; omega))
    have HNL := hid hnl
    clear hnl hrl
    go_wp2_with fail
    refine HC.out.mono ?_
    rintro e wf ⟨vf, rfl, hbf, haf⟩
    have haf := HA.out.trans (Adds.ahead HNL.out haf)
    clear z5 hwl
    simp only [List.flatMap_cons, List.flatMap_nil, List.append_nil] at hbf
    have hx5 := encU_five hx
    have hl2 : (pre ++ encU x 0).length ≤ 2000 := by simp; omega
    go_wp2_with (at_builtin; refine hold ?_)
    refine appB (.tmp 75) (.tmp 76) 0 hbf rfl (by omega) rfl rfl rfl rfl ?_
    intro vg wg hbf hag
    have haf := haf.trans hag
    clear hag
    go_wp2_with fail
    go_ret
    refine ⟨_, rfl, ?_, haf⟩
    rw [List.append_assoc] at hbf
    rw [← HE.out]
    exact hbf
  · -- 9
    rw [show putB 9 ⟨p, c, k, t, i, x, y, li, n, raw, lane, ty⟩ = encS n 0 from rfl]
    have z8 : wc.cell? ⟨w.heap.size, 8, none⟩ = some (.int .i64 n) := cellAt HX.out 8 rfl
    have HC := hid (putS_any _ pre n wc n1 n2 (by omega) HB.out)
    go_wp2_with fail
    refine HC.out.mono ?_
    rintro e wf ⟨vf, rfl, hbf, haf⟩
    have haf := HA.out.trans haf
    clear z8
    go_wp2_with fail
    go_ret
    refine ⟨_, rfl, ?_, haf⟩
    rw [← HE.out]
    exact hbf
  · -- 10
    rw [show putB 10 ⟨p, c, k, t, i, x, y, li, n, raw, lane, ty⟩ = encS n 0 from rfl]
    have z8 : wc.cell? ⟨w.heap.size, 8, none⟩ = some (.int .i64 n) := cellAt HX.out 8 rfl
    have HC := hid (putS_any _ pre n wc n1 n2 (by omega) HB.out)
    go_wp2_with fail
    refine HC.out.mono ?_
    rintro e wf ⟨vf, rfl, hbf, haf⟩
    have haf := HA.out.trans haf
    clear z8
    go_wp2_with fail
    go_ret
    refine ⟨_, rfl, ?_, haf⟩
    rw [← HE.out]
    exact hbf
  · -- 11
    rw [show putB 11 ⟨p, c, k, t, i, x, y, li, n, raw, lane, ty⟩ = lb raw from rfl]
    have z9 : wc.cell? ⟨w.heap.size, 9, none⟩ = some (.string raw) := cellAt HX.out 9 rfl
    go_wp2_with (at_builtin; refine hold ?_)
    refine appS (.tmp 90) (.tmp 92) HB.out (by omega) rfl rfl rfl rfl ?_
    intro vf wf hbf haf
    have haf := HA.out.trans haf
    clear z9
    go_wp2_with fail
    go_ret
    refine ⟨_, rfl, ?_, haf⟩
    rw [← HE.out]
    exact hbf
  · -- 12
    rw [show putB 12 ⟨p, c, k, t, i, x, y, li, n, raw, lane, ty⟩ = lb raw from rfl]
    have z9 : wc.cell? ⟨w.heap.size, 9, none⟩ = some (.string raw) := cellAt HX.out 9 rfl
    go_wp2_with (at_builtin; refine hold ?_)
    refine appS (.tmp 90) (.tmp 92) HB.out (by omega) rfl rfl rfl rfl ?_
    intro vf wf hbf haf
    have haf := HA.out.trans haf
    clear z9
    go_wp2_with fail
    go_ret
    refine ⟨_, rfl, ?_, haf⟩
    rw [← HE.out]
    exact hbf
  · -- 13
    rw [show putB 13 ⟨p, c, k, t, i, x, y, li, n, raw, lane, ty⟩ = lb raw from rfl]
    have z9 : wc.cell? ⟨w.heap.size, 9, none⟩ = some (.string raw) := cellAt HX.out 9 rfl
    go_wp2_with (at_builtin; refine hold ?_)
    refine appS (.tmp 90) (.tmp 92) HB.out (by omega) rfl rfl rfl rfl ?_
    intro vf wf hbf haf
    have haf := HA.out.trans haf
    clear z9
    go_wp2_with fail
    go_ret
    refine ⟨_, rfl, ?_, haf⟩
    rw [← HE.out]
    exact hbf
  · -- 14
    rw [show putB 14 ⟨p, c, k, t, i, x, y, li, n, raw, lane, ty⟩ = lb raw from rfl]
    have z9 : wc.cell? ⟨w.heap.size, 9, none⟩ = some (.string raw) := cellAt HX.out 9 rfl
    go_wp2_with (at_builtin; refine hold ?_)
    refine appS (.tmp 90) (.tmp 92) HB.out (by omega) rfl rfl rfl rfl ?_
    intro vf wf hbf haf
    have haf := HA.out.trans haf
    clear z9
    go_wp2_with fail
    go_ret
    refine ⟨_, rfl, ?_, haf⟩
    rw [← HE.out]
    exact hbf
  · -- 15
    rw [show putB 15 ⟨p, c, k, t, i, x, y, li, n, raw, lane, ty⟩ = [UInt8.ofNat lane] from rfl]
    have z10 : wc.cell? ⟨w.heap.size, 10, none⟩ = some (.int .u8 lane) := cellAt HX.out 10 rfl
    go_wp2_with (at_builtin; refine hold ?_)
    refine appB (.tmp 96) (.tmp 99) (UInt8.ofNat lane) HB.out (by rw [u8_of _ hlane]) (by omega) rfl rfl rfl rfl ?_
    intro vf wf hbf haf
    have haf := HA.out.trans haf
    clear z10
    go_wp2_with fail
    go_ret
    refine ⟨_, rfl, ?_, haf⟩
    rw [← HE.out]
    exact hbf
  · -- 16
    rw [show putB 16 ⟨p, c, k, t, i, x, y, li, n, raw, lane, ty⟩ = encU x 0 ++ (encU y 0 ++ [UInt8.ofNat lane]) from rfl]
    have q5 : Hid (wc.cell? ⟨w.heap.size, 5, none⟩ = some (.int .u32 x)) := cellAt HX.out 5 rfl
    have q6 : Hid (wc.cell? ⟨w.heap.size, 6, none⟩ = some (.int .u32 y)) := cellAt HX.out 6 rfl
    have q10 : Hid (wc.cell? ⟨w.heap.size, 10, none⟩ = some (.int .u8 lane)) := cellAt HX.out 10 rfl
    have hn : Upd (fun k => (Value.slice aa pre.length ca).ownBlock = some k) wc wc.drew := (Upd.refl _ _).drew
    have had : Adds wc wc.drew (.slice aa pre.length ca) (.slice aa pre.length ca) := (Adds.refl _ _).then ((Upd.refl _ _).drew)
    have hbc : Bytes wc.drew (.slice aa pre.length ca) pre := HB.out.new ((Upd.refl _ _).drew)
    have HPU := hid (fun (v : Value) (bs : List UInt8) (x : Nat) (w : World) => putU_any v bs x w)
    have HPN := hid (fun (v l : Value) (bs : List UInt8) (ns : List Nat) (w : World) => putNums_any v l bs ns w)
    have hx5 := encU_five hx
    have hy5 := encU_five hy
    go_wp2_with fail
    refine wp_region_noPanic ?_
    refine wp_region_held_drew (S := (Upd (fun k => (Value.slice aa pre.length ca).ownBlock = some k) wc)) (by kernel_rfl) (by first | exact hn | exact (Upd.refl _ _).drew | exact Upd.drew (by assumption)) (fun hn => ?_)
    generalize wc.drew = wd at *
    refine wpAnyH_take (i := 0) (oi := { dst := some 103, op := Op.move (Operand.tmp 1), type := 39, pos := "instr.go:109", after := #[], guard := none }) (v := ?v38x1) rfl (by kernel_rfl) (by kernel_rfl) (by kernel_rfl) (fun _ _ _ h => h) (Or.inl ⟨by rfl, ?y38x1⟩) hn ?r38x1
    case y38x1 => (intro wS hS; (try go_simp); (try with_reducible rfl))
    try simp only [Act.put, List.setIfInBounds_toArray, List.set_cons_zero, List.set_cons_succ]
    refine wpAnyH_take (i := 1) (oi := { dst := some 104, op := Op.fieldAddr 34 (Operand.tmp 2) 2, type := 0, pos := "instr.go:109", after := #[], guard := none }) (v := ?v38x2) rfl (by kernel_rfl) (by kernel_rfl) (by kernel_rfl) (fun _ _ _ h => h) (Or.inl ⟨by rfl, ?y38x2⟩) hn ?r38x2
    case y38x2 => (intro wS hS; (try go_simp); (try with_reducible rfl))
    try simp only [Act.put, List.setIfInBounds_toArray, List.set_cons_zero, List.set_cons_succ]
    refine wpAnyH_take (i := 2) (oi := { dst := some 105, op := Op.load 22 (Operand.tmp 104), type := 22, pos := "instr.go:109", after := #[{ on := 1, ground := Ground.data }], guard := none }) (v := ?v38x3) rfl (by kernel_rfl) (by kernel_rfl) (by kernel_rfl) (fun _ _ _ h => h) (Or.inl ⟨by rfl, ?y38x3⟩) hn ?r38x3
    case y38x3 => (intro wS hS; have c0 := hS.cell q5.out (fun h => HNA.out h); (try go_simp); (try with_reducible rfl))
    try simp only [Act.put, List.setIfInBounds_toArray, List.set_cons_zero, List.set_cons_succ]
    refine wpAnyH_take (i := 3) (oi := { dst := some 106, op := Op.fieldAddr 34 (Operand.tmp 2) 3, type := 0, pos := "instr.go:109", after := #[], guard := none }) (v := ?v38x4) rfl (by kernel_rfl) (by kernel_rfl) (by kernel_rfl) (fun _ _ _ h => h) (Or.inl ⟨by rfl, ?y38x4⟩) hn ?r38x4
    case y38x4 => (intro wS hS; (try go_simp); (try with_reducible rfl))
    try simp only [Act.put, List.setIfInBounds_toArray, List.set_cons_zero, List.set_cons_succ]
    refine wpAnyH_take (i := 4) (oi := { dst := some 107, op := Op.load 22 (Operand.tmp 106), type := 22, pos := "instr.go:109", after := #[{ on := 3, ground := Ground.data }], guard := none }) (v := ?v38x5) rfl (by kernel_rfl) (by kernel_rfl) (by kernel_rfl) (fun _ _ _ h => h) (Or.inl ⟨by rfl, ?y38x5⟩) hn ?r38x5
    case y38x5 => (intro wS hS; have c0 := hS.cell q6.out (fun h => HNA.out h); (try go_simp); (try with_reducible rfl))
    try simp only [Act.put, List.setIfInBounds_toArray, List.set_cons_zero, List.set_cons_succ]
    refine wpAnyH_take (i := 7) (oi := { dst := some 110, op := Op.fieldAddr 34 (Operand.tmp 2) 7, type := 0, pos := "instr.go:109", after := #[], guard := none }) (v := ?v38x6) rfl (by kernel_rfl) (by kernel_rfl) (by kernel_rfl) (fun _ _ _ h => h) (Or.inl ⟨by rfl, ?y38x6⟩) hn ?r38x6
    case y38x6 => (intro wS hS; (try go_simp); (try with_reducible rfl))
    try simp only [Act.put, List.setIfInBounds_toArray, List.set_cons_zero, List.set_cons_succ]
    refine wpAnyH_take (i := 8) (oi := { dst := some 111, op := Op.load 5 (Operand.tmp 110), type := 5, pos := "instr.go:109", after := #[{ on := 7, ground := Ground.data }], guard := none }) (v := ?v38x7) rfl (by kernel_rfl) (by kernel_rfl) (by kernel_rfl) (fun _ _ _ h => h) (Or.inl ⟨by rfl, ?y38x7⟩) hn ?r38x7
    case y38x7 => (intro wS hS; have c0 := hS.cell q10.out (fun h => HNA.out h); (try go_simp); (try with_reducible rfl))
    try simp only [Act.put, List.setIfInBounds_toArray, List.set_cons_zero, List.set_cons_succ]
    refine wpAnyH_ready (rs := [5, 9]) (by kernel_rfl) (by simp) ?_
    refine AllReadyH.cons (o := { dst := some 108, op := Op.buildSlice 23 2 #[(0, Operand.tmp 105), (1, Operand.tmp 107)], type := 23, pos := "instr.go:109", after := #[{ on := 2, ground := Ground.data }, { on := 4, ground := Ground.data }], guard := none }) rfl (fun K hK => ?_) ?_
    · skip
      go_simp
      have hra := lit_made2 hbc x y
      try simp only [World.size_alloc] at hra
      have hbc := hbc.new ((Upd.refl _ _).alloc (.cells #[.int .u32 (x : Nat), .int .u32 (y : Nat)] 22))
      have had := had.then ((Upd.refl _ _).alloc (.cells #[.int .u32 (x : Nat), .int .u32 (y : Nat)] 22))
      have hn := had.upd
      refine hK.out _ _ (by first | exact hn | exact Upd.alloc hn _) (fun hn => ?_)
      clear hK K
      try simp only [Act.put, List.setIfInBounds_toArray, List.set_cons_zero, List.set_cons_succ]
      refine wpAnyH_ready (rs := [6, 9]) (by kernel_rfl) (by simp) ?_
      refine AllReadyH.cons (o := { dst := some 109, op := Op.call { callee := Callee.value (Operand.func 40), args := #[Operand.tmp 103, Operand.tmp 108], argTypes := #[39, 23] }, type := 39, pos := "instr.go:109", after := #[{ on := 0, ground := Ground.data }, { on := 5, ground := Ground.data }], guard := none }) rfl (fun K hK => ?_) ?_
      · skip
        go_simp
        with_reducible refine (HPN.out _ _ _ [x, y] _ hbc hra.r hra.a (by first | omega | (simp only [List.length_append]; omega)) (by simp) (by intro z hz; simp at hz; omega)).mono ?_
        rintro e wq ⟨vq, rfl, hbq, haq⟩
        go_wp2_with fail
        have had := had.trans haq
        have hn := had.upd
        have hbc := hbq
        have hra := lit2_adds hra haq
        refine hK.out _ _ (by first | exact hn | exact Upd.alloc hn _) (fun hn => ?_)
        clear hK K
        try simp only [Act.put, List.setIfInBounds_toArray, List.set_cons_zero, List.set_cons_succ]
        refine wpAnyH_ready (rs := [9]) (by kernel_rfl) (by simp) ?_
        refine AllReadyH.cons (o := { dst := some 112, op := Op.buildSlice 39 1 #[(0, Operand.tmp 111)], type := 39, pos := "instr.go:109", after := #[{ on := 8, ground := Ground.data }], guard := none }) rfl (fun K hK => ?_) AllReadyH.nil
        go_simp
        have hrb := lit_madeB hbc lane hlane
        try simp only [World.size_alloc] at hrb
        have hra := hra.new ((Upd.refl _ _).alloc (.cells #[.int .u8 (lane : Nat)] 5))
        have hbc := hbc.new ((Upd.refl _ _).alloc (.cells #[.int .u8 (lane : Nat)] 5))
        have had := had.then ((Upd.refl _ _).alloc (.cells #[.int .u8 (lane : Nat)] 5))
        have hn := had.upd
        refine hK.out _ _ (by first | exact hn | exact Upd.alloc hn _) (fun hn => ?_)
        clear hK K
        try simp only [Act.put, List.setIfInBounds_toArray, List.set_cons_zero, List.set_cons_succ]
        refine wpAnyH_ready (rs := [10]) (by kernel_rfl) (by simp) ?_
        refine AllReadyH.cons (o := { dst := some 113, op := Op.call { callee := Callee.builtin Builtin.append, args := #[Operand.tmp 109, Operand.tmp 112], argTypes := #[39, 39] }, type := 39, pos := "instr.go:109", after := #[{ on := 6, ground := Ground.data }, { on := 9, ground := Ground.data }, { on := 6, ground := Ground.chain }], guard := none }) rfl (fun K hK => ?_) AllReadyH.nil
        refine stepR _ _ hbc hrb.r ?_ rfl rfl rfl rfl ?_
        · (simp only [List.length_append, List.flatMap_cons, List.flatMap_nil, List.length_cons, List.length_nil]; omega)
        intro vq wq hbq haq
        have had := had.trans haq
        have hn := had.upd
        have hbc := hbq
        refine hK.out _ _ (by first | exact hn | exact Upd.alloc hn _) (fun hn => ?_)
        clear hK K
        try simp only [Act.put, List.setIfInBounds_toArray, List.set_cons_zero, List.set_cons_succ]
        refine wpAnyH_take (i := 11) (oi := { dst := some 4, op := Op.assign (Operand.tmp 113), type := 39, pos := "instr.go:109", after := #[{ on := 10, ground := Ground.data }, { on := 10, ground := Ground.chain }, { on := 0, ground := Ground.phase }, { on := 1, ground := Ground.phase }, { on := 2, ground := Ground.phase }, { on := 3, ground := Ground.phase }, { on := 4, ground := Ground.phase }, { on := 5, ground := Ground.phase }, { on := 6, ground := Ground.phase }, { on := 7, ground := Ground.phase }, { on := 8, ground := Ground.phase }, { on := 9, ground := Ground.phase }, { on := 10, ground := Ground.phase }], guard := none }) (v := ?v38x8) rfl (by kernel_rfl) (by kernel_rfl) (by kernel_rfl) (fun _ _ _ h => h) (Or.inl ⟨by rfl, ?y38x8⟩) hn ?r38x8
        case y38x8 => (intro wS hS; (try go_simp); (try with_reducible rfl))
        try simp only [Act.put, List.setIfInBounds_toArray, List.set_cons_zero, List.set_cons_succ]
        refine wpAnyH_done (by kernel_rfl) ?_ _
        refine NoPanic.normal ?_
        go_wp2_with fail
        go_ret
        refine ⟨_, rfl, ?_, HA.out.trans had⟩
        rw [← HE.out]
        simp only [List.flatMap_cons, List.flatMap_nil, List.append_nil, List.append_assoc] at hbc ⊢
        exact hbc
      refine AllReadyH.cons (o := { dst := some 112, op := Op.buildSlice 39 1 #[(0, Operand.tmp 111)], type := 39, pos := "instr.go:109", after := #[{ on := 8, ground := Ground.data }], guard := none }) rfl (fun K hK => ?_) AllReadyH.nil
      go_simp
      have hrb := lit_madeB hbc lane hlane
      try simp only [World.size_alloc] at hrb
      have hra := hra.new ((Upd.refl _ _).alloc (.cells #[.int .u8 (lane : Nat)] 5))
      have hbc := hbc.new ((Upd.refl _ _).alloc (.cells #[.int .u8 (lane : Nat)] 5))
      have had := had.then ((Upd.refl _ _).alloc (.cells #[.int .u8 (lane : Nat)] 5))
      have hn := had.upd
      refine hK.out _ _ (by first | exact hn | exact Upd.alloc hn _) (fun hn => ?_)
      clear hK K
      try simp only [Act.put, List.setIfInBounds_toArray, List.set_cons_zero, List.set_cons_succ]
      refine wpAnyH_ready (rs := [6]) (by kernel_rfl) (by simp) ?_
      refine AllReadyH.cons (o := { dst := some 109, op := Op.call { callee := Callee.value (Operand.func 40), args := #[Operand.tmp 103, Operand.tmp 108], argTypes := #[39, 23] }, type := 39, pos := "instr.go:109", after := #[{ on := 0, ground := Ground.data }, { on := 5, ground := Ground.data }], guard := none }) rfl (fun K hK => ?_) AllReadyH.nil
      go_simp
      with_reducible refine (HPN.out _ _ _ [x, y] _ hbc hra.r hra.a (by first | omega | (simp only [List.length_append]; omega)) (by simp) (by intro z hz; simp at hz; omega)).mono ?_
      rintro e wq ⟨vq, rfl, hbq, haq⟩
      go_wp2_with fail
      have had := had.trans haq
      have hn := had.upd
      have hbc := hbq
      have hra := lit2_adds hra haq
      have hrb := litB_adds hrb haq
      refine hK.out _ _ (by first | exact hn | exact Upd.alloc hn _) (fun hn => ?_)
      clear hK K
      try simp only [Act.put, List.setIfInBounds_toArray, List.set_cons_zero, List.set_cons_succ]
      refine wpAnyH_ready (rs := [10]) (by kernel_rfl) (by simp) ?_
      refine AllReadyH.cons (o := { dst := some 113, op := Op.call { callee := Callee.builtin Builtin.append, args := #[Operand.tmp 109, Operand.tmp 112], argTypes := #[39, 39] }, type := 39, pos := "instr.go:109", after := #[{ on := 6, ground := Ground.data }, { on := 9, ground := Ground.data }, { on := 6, ground := Ground.chain }], guard := none }) rfl (fun K hK => ?_) AllReadyH.nil
      refine stepR _ _ hbc hrb.r ?_ rfl rfl rfl rfl ?_
      · (simp only [List.length_append, List.flatMap_cons, List.flatMap_nil, List.length_cons, List.length_nil]; omega)
      intro vq wq hbq haq
      have had := had.trans haq
      have hn := had.upd
      have hbc := hbq
      refine hK.out _ _ (by first | exact hn | exact Upd.alloc hn _) (fun hn => ?_)
      clear hK K
      try simp only [Act.put, List.setIfInBounds_toArray, List.set_cons_zero, List.set_cons_succ]
      refine wpAnyH_take (i := 11) (oi := { dst := some 4, op := Op.assign (Operand.tmp 113), type := 39, pos := "instr.go:109", after := #[{ on := 10, ground := Ground.data }, { on := 10, ground := Ground.chain }, { on := 0, ground := Ground.phase }, { on := 1, ground := Ground.phase }, { on := 2, ground := Ground.phase }, { on := 3, ground := Ground.phase }, { on := 4, ground := Ground.phase }, { on := 5, ground := Ground.phase }, { on := 6, ground := Ground.phase }, { on := 7, ground := Ground.phase }, { on := 8, ground := Ground.phase }, { on := 9, ground := Ground.phase }, { on := 10, ground := Ground.phase }], guard := none }) (v := ?v38x9) rfl (by kernel_rfl) (by kernel_rfl) (by kernel_rfl) (fun _ _ _ h => h) (Or.inl ⟨by rfl, ?y38x9⟩) hn ?r38x9
      case y38x9 => (intro wS hS; (try go_simp); (try with_reducible rfl))
      try simp only [Act.put, List.setIfInBounds_toArray, List.set_cons_zero, List.set_cons_succ]
      refine wpAnyH_done (by kernel_rfl) ?_ _
      refine NoPanic.normal ?_
      go_wp2_with fail
      go_ret
      refine ⟨_, rfl, ?_, HA.out.trans had⟩
      rw [← HE.out]
      simp only [List.flatMap_cons, List.flatMap_nil, List.append_nil, List.append_assoc] at hbc ⊢
      exact hbc
    refine AllReadyH.cons (o := { dst := some 112, op := Op.buildSlice 39 1 #[(0, Operand.tmp 111)], type := 39, pos := "instr.go:109", after := #[{ on := 8, ground := Ground.data }], guard := none }) rfl (fun K hK => ?_) AllReadyH.nil
    go_simp
    have hrb := lit_madeB hbc lane hlane
    try simp only [World.size_alloc] at hrb
    have hbc := hbc.new ((Upd.refl _ _).alloc (.cells #[.int .u8 (lane : Nat)] 5))
    have had := had.then ((Upd.refl _ _).alloc (.cells #[.int .u8 (lane : Nat)] 5))
    have hn := had.upd
    refine hK.out _ _ (by first | exact hn | exact Upd.alloc hn _) (fun hn => ?_)
    clear hK K
    try simp only [Act.put, List.setIfInBounds_toArray, List.set_cons_zero, List.set_cons_succ]
    refine wpAnyH_ready (rs := [5]) (by kernel_rfl) (by simp) ?_
    refine AllReadyH.cons (o := { dst := some 108, op := Op.buildSlice 23 2 #[(0, Operand.tmp 105), (1, Operand.tmp 107)], type := 23, pos := "instr.go:109", after := #[{ on := 2, ground := Ground.data }, { on := 4, ground := Ground.data }], guard := none }) rfl (fun K hK => ?_) AllReadyH.nil
    go_simp
    have hra := lit_made2 hbc x y
    try simp only [World.size_alloc] at hra
    have hrb := hrb.new ((Upd.refl _ _).alloc (.cells #[.int .u32 (x : Nat), .int .u32 (y : Nat)] 22))
    have hbc := hbc.new ((Upd.refl _ _).alloc (.cells #[.int .u32 (x : Nat), .int .u32 (y : Nat)] 22))
    have had := had.then ((Upd.refl _ _).alloc (.cells #[.int .u32 (x : Nat), .int .u32 (y : Nat)] 22))
    have hn := had.upd
    refine hK.out _ _ (by first | exact hn | exact Upd.alloc hn _) (fun hn => ?_)
    clear hK K
    try simp only [Act.put, List.setIfInBounds_toArray, List.set_cons_zero, List.set_cons_succ]
    refine wpAnyH_ready (rs := [6]) (by kernel_rfl) (by simp) ?_
    refine AllReadyH.cons (o := { dst := some 109, op := Op.call { callee := Callee.value (Operand.func 40), args := #[Operand.tmp 103, Operand.tmp 108], argTypes := #[39, 23] }, type := 39, pos := "instr.go:109", after := #[{ on := 0, ground := Ground.data }, { on := 5, ground := Ground.data }], guard := none }) rfl (fun K hK => ?_) AllReadyH.nil
    go_simp
    with_reducible refine (HPN.out _ _ _ [x, y] _ hbc hra.r hra.a (by first | omega | (simp only [List.length_append]; omega)) (by simp) (by intro z hz; simp at hz; omega)).mono ?_
    rintro e wq ⟨vq, rfl, hbq, haq⟩
    go_wp2_with fail
    have had := had.trans haq
    have hn := had.upd
    have hbc := hbq
    have hra := lit2_adds hra haq
    have hrb := litB_adds hrb haq
    refine hK.out _ _ (by first | exact hn | exact Upd.alloc hn _) (fun hn => ?_)
    clear hK K
    try simp only [Act.put, List.setIfInBounds_toArray, List.set_cons_zero, List.set_cons_succ]
    refine wpAnyH_ready (rs := [10]) (by kernel_rfl) (by simp) ?_
    refine AllReadyH.cons (o := { dst := some 113, op := Op.call { callee := Callee.builtin Builtin.append, args := #[Operand.tmp 109, Operand.tmp 112], argTypes := #[39, 39] }, type := 39, pos := "instr.go:109", after := #[{ on := 6, ground := Ground.data }, { on := 9, ground := Ground.data }, { on := 6, ground := Ground.chain }], guard := none }) rfl (fun K hK => ?_) AllReadyH.nil
    refine stepR _ _ hbc hrb.r ?_ rfl rfl rfl rfl ?_
    · (simp only [List.length_append, List.flatMap_cons, List.flatMap_nil, List.length_cons, List.length_nil]; omega)
    intro vq wq hbq haq
    have had := had.trans haq
    have hn := had.upd
    have hbc := hbq
    refine hK.out _ _ (by first | exact hn | exact Upd.alloc hn _) (fun hn => ?_)
    clear hK K
    try simp only [Act.put, List.setIfInBounds_toArray, List.set_cons_zero, List.set_cons_succ]
    refine wpAnyH_take (i := 11) (oi := { dst := some 4, op := Op.assign (Operand.tmp 113), type := 39, pos := "instr.go:109", after := #[{ on := 10, ground := Ground.data }, { on := 10, ground := Ground.chain }, { on := 0, ground := Ground.phase }, { on := 1, ground := Ground.phase }, { on := 2, ground := Ground.phase }, { on := 3, ground := Ground.phase }, { on := 4, ground := Ground.phase }, { on := 5, ground := Ground.phase }, { on := 6, ground := Ground.phase }, { on := 7, ground := Ground.phase }, { on := 8, ground := Ground.phase }, { on := 9, ground := Ground.phase }, { on := 10, ground := Ground.phase }], guard := none }) (v := ?v38x10) rfl (by kernel_rfl) (by kernel_rfl) (by kernel_rfl) (fun _ _ _ h => h) (Or.inl ⟨by rfl, ?y38x10⟩) hn ?r38x10
    case y38x10 => (intro wS hS; (try go_simp); (try with_reducible rfl))
    try simp only [Act.put, List.setIfInBounds_toArray, List.set_cons_zero, List.set_cons_succ]
    refine wpAnyH_done (by kernel_rfl) ?_ _
    refine NoPanic.normal ?_
    go_wp2_with fail
    go_ret
    refine ⟨_, rfl, ?_, HA.out.trans had⟩
    rw [← HE.out]
    simp only [List.flatMap_cons, List.flatMap_nil, List.append_nil, List.append_assoc] at hbc ⊢
    exact hbc
  · -- 17
    rw [show putB 17 ⟨p, c, k, t, i, x, y, li, n, raw, lane, ty⟩ = lb ty from rfl]
    have z11 : wc.cell? ⟨w.heap.size, 11, none⟩ = some (.slice au (lb ty).length cu) := cellAt HX.out 11 rfl
    have hle : (lb ty).length ≤ 1000 := by rw [lb_len]; exact s3
    go_wp2_with fail
    go_loopw [1, 119] (fun b c wr => ∃ j : Nat, c = .int .i64 j ∧ j ≤ (lb ty).length ∧ Bytes wr b (pre ++ (lb ty).take j) ∧ Adds wc wr (.slice aa pre.length ca) b) (fun _ c _ => (lb ty).length - (intOf c).toNat)
    case atStart => exact ⟨0, rfl, by omega, by simpa using HB.out, Adds.refl _ _⟩
    case round =>
      obtain ⟨j, rfl, hj1, hbr, har⟩ := hrel
      have hrd := HU.out.adds har GA3.out
      by_cases hj : j < (lb ty).length
      · obtain ⟨a5, c5, e, hcap, hn5, hcell⟩ := hrd
        cases e
        obtain ⟨b5, o5, rfl, hce⟩ := hcell (by intro h; rw [h] at hj; simp at hj)
        have hc1 := hce j hj
        have hg1 : (lb ty)[j]? = some (lb ty)[j] := List.getElem?_eq_getElem hj
        generalize hxe : (lb ty)[j] = xe at *
        have HG := hid hg1
        have hlen2 : (pre ++ (lb ty).take j).length ≤ 100000 := by have := lb_len ty; simp; omega
        clear hg1 hxe hce hcell z11
        unfold cb at hc1
        go_wp2_with (at_builtin; refine hold ?_)
        refine appB (.tmp 123) (.tmp 125) xe hbr rfl (by omega) rfl rfl rfl rfl ?_
        intro v' w1 hb1 ha1
        have ha2 := har.trans ha1
        clear ha1 har hbr
        go_wp2_with fail
        go_roundw
        case rel =>
          refine ⟨j + 1, by go_num, by omega, ?_, ha2⟩
          rw [List.take_add_one, HG.out]
          simpa using hb1
        case measure => simp [intOf]; omega
      · have e : j = (lb ty).length := by omega
        subst e
        rw [List.take_length] at hbr
        clear hrd z11
        obtain ⟨ab5, cb5, rfl⟩ := hbr.rd.shape
        have HBR := hid hbr
        have HAR := hid har
        clear hbr har
        go_wp2_with fail
        go_ret
        refine ⟨_, rfl, ?_, HA.out.trans HAR.out⟩
        rw [← HE.out]
        exact HBR.out
  · -- 18
    rw [show putB 18 ⟨p, c, k, t, i, x, y, li, n, raw, lane, ty⟩ = encU ty.size 0 ++ lb ty from rfl]
    have z11 : wc.cell? ⟨w.heap.size, 11, none⟩ = some (.slice au (lb ty).length cu) := cellAt HX.out 11 rfl
    have hlt := lb_len ty
    have HC := hid (putVals_any _ _ pre (lb ty) wc HB.out HU.out GA3.out (by omega) (by omega))
    rw [hlt] at HC
    clear hlt
    go_wp2_with fail
    refine HC.out.mono ?_
    rintro e wf ⟨vf, rfl, hbf, haf⟩
    have haf := HA.out.trans haf
    clear z11
    go_wp2_with fail
    go_ret
    refine ⟨_, rfl, ?_, haf⟩
    rw [← HE.out]
    exact hbf
  · have HPZ : Hid (putB s ⟨p, c, k, t, i, x, y, li, n, raw, lane, ty⟩ = []) := by show _ = _; unfold putB; simp [h1, h2, h3, h4, h5, h6, h7, h8, h9, h10, h11, h12, h13, h14, h15, h16, h17, h18]
    have e1 : (s == 1) = false := beq_eq_false_iff_ne.mpr h1
    have e2 : (s == 2) = false := beq_eq_false_iff_ne.mpr h2
    have e3 : (s == 3) = false := beq_eq_false_iff_ne.mpr h3
    have e4 : (s == 4) = false := beq_eq_false_iff_ne.mpr h4
    have e5 : (s == 5) = false := beq_eq_false_iff_ne.mpr h5
    have e6 : (s == 6) = false := beq_eq_false_iff_ne.mpr h6
    have e7 : (s == 7) = false := beq_eq_false_iff_ne.mpr h7
    have e8 : (s == 8) = false := beq_eq_false_iff_ne.mpr h8
    have e9 : (s == 9) = false := beq_eq_false_iff_ne.mpr h9
    have e10 : (s == 10) = false := beq_eq_false_iff_ne.mpr h10
    have e11 : (s == 11) = false := beq_eq_false_iff_ne.mpr h11
    have e12 : (s == 12) = false := beq_eq_false_iff_ne.mpr h12
    have e13 : (s == 13) = false := beq_eq_false_iff_ne.mpr h13
    have e14 : (s == 14) = false := beq_eq_false_iff_ne.mpr h14
    have e15 : (s == 15) = false := beq_eq_false_iff_ne.mpr h15
    have e16 : (s == 16) = false := beq_eq_false_iff_ne.mpr h16
    have e17 : (s == 17) = false := beq_eq_false_iff_ne.mpr h17
    have e18 : (s == 18) = false := beq_eq_false_iff_ne.mpr h18
    clear h1 h2 h3 h4 h5 h6 h7 h8 h9 h10 h11 h12 h13 h14 h15 h16 h17 h18
    go_wp2_with fail
    go_ret
    refine ⟨_, rfl, ?_, HA.out⟩
    have e := HE.out []
    rw [List.append_nil] at e
    rw [HPZ.out]
    first | (rw [← e]; exact HB.out) | (simp only [List.append_nil] at e; rw [← e]; exact HB.out)
end Go.Proofs.Ytnngibflnnmioaa
