/-
  A struct of one-cell fields that came in, opened: any number of fields.
-/
import Derived.Test.YtbllpajibhiobaaDoorChecked
import Derived.OpenShut
import Derived.ChangeOld
import Derived.Lib.SmallJoins
import Derived.Test.YtbllpajibhiobaaDoorJ0
import Derived.SizedLaws
import Derived.Deep.SlicePairs
import Derived.Test.YtbllpajibhiobaaDoorJ8
import Derived.Test.YtbllpajibhiobaaDoorJ6
namespace Go.Proofs.YtbllpajibhiobaaDoor
open Go.ChangeShapes Go.WideShapes Go.ChangeAt Go.RowKit Go.Deep Go.WideElems Go.Maps Go.Joins

theorem open_aggs {H : Type} {enc : TypeId × Value → H} {P : Program} {w : World} {base : Nat} {spare : Nat → Bool} {held : Bool} {r : Reach} {b0 : Nat} {t : TypeId} {fs : Array Field} {v : Value} {d : DataW H} {p : List MemPlace}
    (hs : P.underlying t = some (.struct fs)) (hone : oneCellFields P fs = true) (hC : P.cellsOf t = fs.size) (hv : Value.okWide P w r b0 t v) (h : DataW.Trod enc P w base spare held t v d p) :
    ∃ (vs : Array Value) (ys : List (DataW H × List MemPlace)) (n : Nat), v = .agg vs ∧ vs.size = fs.size ∧ ys.length = fs.size ∧ d = .agg (ys.map (·.1)) ∧ p = ys.flatMap (·.2) ∧
      ∀ (i : Nat) (f : Field) (u : Value), fs[i]? = some f → vs[i]? = some u → ∃ y, ys[i]? = some y ∧ DataW.trod enc P w base spare held n f.type [u] = some y := by
  obtain ⟨cs, rfl, hsz⟩ := okWide_struct hs hv
  obtain ⟨fuel, hf⟩ := h
  obtain ⟨xs, n, _, hx, hl, hlen, hg⟩ := DataW.trod_struct hs hf
  refine ⟨cs, xs, n, rfl, hsz.trans hC, hlen, (Prod.mk.inj hx).1, (Prod.mk.inj hx).2, fun i f u hi hu => ?_⟩
  have := hg i f hi
  obtain ⟨o, k⟩ := hone_of hone i f hi
  rw [o, k] at this
  have hi' : i < xs.length := by rw [hlen]; exact (Array.getElem?_eq_some_iff.1 hi).1
  have hu' : cs.toList[i]? = some u := by simpa using hu
  obtain ⟨hl', hu2⟩ := List.getElem?_eq_some_iff.1 hu'
  refine ⟨xs[i], List.getElem?_eq_getElem hi', ?_⟩
  rw [← List.getElem?_eq_getElem hi', ← this]
  congr 1
  show [u] = List.take 1 (List.drop i cs.toList)
  rw [List.drop_eq_getElem_cons hl', hu2]
  rfl
theorem slice_form {H : Type} {enc : TypeId × Value → H} {P : Program} {w : World} {base : Nat} {spare : Nat → Bool} {held : Bool} {t e : TypeId} {fuel : Nat} {cs : List Value} {x : DataW H × List MemPlace} (ht : P.underlying t = some (.slice e))
    (h : DataW.trod enc P w base spare held fuel t cs = some x) : ∃ a len cap, cs = [.slice a len cap] := by
  rcases DataW.trod_slice ht h with ⟨h, _⟩ | ⟨a, len, cap, _, _, _, _, h, _⟩
  · exact ⟨none, 0, 0, h⟩
  · exact ⟨some a, len, cap, h⟩
theorem array12 {α : Type} {vs : Array α} (h : vs.size = 12) : ∃ a b c d e f g h' i j k l, vs = #[a, b, c, d, e, f, g, h', i, j, k, l] := by
  obtain ⟨l⟩ := vs
  match l, h with
  | [a, b, c, d, e, f, g, h', i, j, k, l], _ => exact ⟨a, b, c, d, e, f, g, h', i, j, k, l, rfl⟩
end Go.Proofs.YtbllpajibhiobaaDoor

namespace Go.Proofs.YtbllpajibhiobaaDoor
open Go.RowKit Go.Proofs.Own Go.ChangeShapes Go.WideShapes Go.Deep

/-- no part of a datum takes up more than the reach -/
def Light {H : Type} (P : Program) (t : TypeId) (d : DataW H) : Prop := ∀ n ∈ d.weights P t, n ≤ reachBytes
section
variable {H : Type} {P : Program}
theorem Light.arg {ts : List TypeId} {ds : List (DataW H)} (h : (DataW.weightsEach P ts ds).all (· ≤ reachBytes) = true) {j : Nat} {t : TypeId} {d : DataW H} (ht : ts[j]? = some t) (hd : ds[j]? = some d) : Light P t d := fun n hn => by
  have := List.all_eq_true.1 h n (DataW.weights_mem_each ht hd n hn)
  simpa using this
theorem Light.field {t : TypeId} {fs : Array Field} {parts : List (DataW H)} (hu : P.underlying t = some (.struct fs)) (h : Light P t (.agg parts)) {j : Nat} {f : Field} {d : DataW H} (hf : fs[j]? = some f) (hd : parts[j]? = some d) : Light P f.type d := fun n hn => by
  refine h n ?_
  unfold DataW.weights
  rw [hu]
  exact DataW.weights_mem_each (j := j) (by simp [hf]) hd n hn
theorem mem_all {e : TypeId} : ∀ {ds : List (DataW H)} {d : DataW H}, d ∈ ds → ∀ n ∈ d.weights P e, n ∈ DataW.weightsAll P e ds
  | d0 :: ds, d, h, n, hn => by
    unfold DataW.weightsAll
    rw [List.mem_append]
    rcases List.mem_cons.1 h with rfl | h
    · exact .inl hn
    · exact .inr (mem_all h n hn)
theorem Light.elem {t e : TypeId} {elems spare : List (DataW H)} (hu : P.underlying t = some (.slice e)) (h : Light P t (.slice elems spare)) : (elems.length + spare.length) * P.bytesOf e ≤ reachBytes ∧ ∀ d ∈ elems, Light P e d := by
  unfold Light DataW.weights at h
  rw [hu] at h
  refine ⟨h _ (by simp), fun d hd n hn => h n ?_⟩
  simp only [List.mem_cons, List.mem_append]
  exact .inr (.inl (mem_all hd n hn))
theorem Light.str {t : TypeId} {bytes : List UInt8} (h : Light (H := H) P t (.lit (.string bytes))) : bytes.length ≤ reachBytes := h _ (by simp [DataW.weights])
end
section
variable {H : Type} {enc : TypeId × Value → H} {P : Program} {w : World} {base : Nat} {spare : Nat → Bool} {held : Bool}
/-- a field's cells -/
theorem part {t : TypeId} {fs : Array Field} {fuel : Nat} {cs : List Value} {x : DataW H × List MemPlace} (hu : P.underlying t = some (.struct fs)) (h : DataW.trod enc P w base spare held fuel t cs = some x) (hL : Light P t x.1) (i : Nat) {f : Field} (hf : fs[i]? = some f) :
    ∃ n y, DataW.trod enc P w base spare held n f.type ((cs.drop f.offset).take (P.cellsOf f.type)) = some y ∧ Light P f.type y.1 := by
  obtain ⟨xs, n, _, rfl, _, hlen, hg⟩ := DataW.trod_struct hu h
  have hi : i < xs.length := by rw [hlen]; exact (Array.getElem?_eq_some_iff.1 hf).1
  refine ⟨n, xs[i], (hg i f hf).trans (List.getElem?_eq_getElem hi), ?_⟩
  exact Light.field hu hL hf (by rw [List.getElem?_map, List.getElem?_eq_getElem hi]; rfl)
theorem part1 {t : TypeId} {fs : Array Field} {fuel : Nat} {cs : List Value} {x : DataW H × List MemPlace} (hu : P.underlying t = some (.struct fs)) (h : DataW.trod enc P w base spare held fuel t cs = some x) (hL : Light P t x.1) (i : Nat) {f : Field} (hf : fs[i]? = some f)
    (hc : P.cellsOf f.type = 1) {u : Value} (hv : cs[f.offset]? = some u) : ∃ n y, DataW.trod enc P w base spare held n f.type [u] = some y ∧ Light P f.type y.1 := by
  obtain ⟨n, y, g, l⟩ := part hu h hL i hf
  rw [hc] at g
  obtain ⟨hl, hu2⟩ := List.getElem?_eq_some_iff.1 hv
  rw [List.drop_eq_getElem_cons hl, hu2] at g
  exact ⟨n, y, g, l⟩
theorem partN {t : TypeId} {fs : Array Field} {fuel : Nat} {cs : List Value} {x : DataW H × List MemPlace} (hu : P.underlying t = some (.struct fs)) (h : DataW.trod enc P w base spare held fuel t cs = some x) (hL : Light P t x.1) (i : Nat) {f : Field} (hf : fs[i]? = some f)
    {k : Nat} (hc : P.cellsOf f.type = k) {ds : List Value} (hv : (cs.drop f.offset).take k = ds) : ∃ n y, DataW.trod enc P w base spare held n f.type ds = some y ∧ Light P f.type y.1 := by
  obtain ⟨n, y, g, l⟩ := part hu h hL i hf
  rw [hc, hv] at g
  exact ⟨n, y, g, l⟩
theorem struct_len {t : TypeId} {fs : Array Field} {fuel : Nat} {cs : List Value} {x : DataW H × List MemPlace} (hu : P.underlying t = some (.struct fs)) (h : DataW.trod enc P w base spare held fuel t cs = some x) : cs.length = P.cellsOf t := by
  obtain ⟨xs, n, _, rfl, hl, _, _⟩ := DataW.trod_struct hu h
  exact hl
/-- a slice of whatever elements -/
theorem rdnOf {α : Type} [Inhabited α] (E : ERep α) (Q : α → Prop) {t e : TypeId} {n fuel : Nat} {cs : List Value} {y : DataW H × List MemPlace} (ht : P.underlying t = some (.slice e)) (ce : P.cellsOf e = n) (hn : 0 < n) (hb : 1 ≤ P.bytesOf e)
    (h : DataW.trod enc P w base spare held fuel t cs = some y) (hL : Light P t y.1)
    (hf : ∀ fuel cs x, DataW.trod enc P w base spare held fuel e cs = some x → cs.length = n → Light P e x.1 → ∃ b : α, E w (fun _ => True) b cs ∧ Q b) :
    ∃ v, cs = [v] ∧ ∃ xs : List α, RdE n E w (fun _ => True) v xs ∧ xs.length ≤ reachBytes ∧ ∀ x ∈ xs, Q x := by
  rcases open_slice ht h with ⟨rfl, _⟩ | ⟨a, len, cap, m, k, D, Pl, rfl, _, hl, hm, hmm, hy, hx⟩
  · exact ⟨_, rfl, [], RdE.nil, Nat.zero_le _, fun x h => by cases h⟩
  · have hm2 : len ≤ m := by rw [hmm]; split <;> omega
    rw [hy] at hL
    obtain ⟨hsz, hel⟩ := Light.elem ht hL
    have hlen : len ≤ reachBytes := by
      simp only [List.length_map, List.length_range] at hsz
      have : (len + (m - len)) * 1 ≤ (len + (m - len)) * P.bytesOf e := Nat.mul_le_mul_left _ hb
      omega
    have each : ∀ i, i < len → ∃ q : α × List Value, w.cells? base (a.add (i * P.cellsOf e)) (P.cellsOf e) = some q.2 ∧ E w (fun _ => True) q.1 q.2 ∧ Q q.1 := by
      intro i hi
      obtain ⟨cs', h1, h2⟩ := hx i (by omega)
      have hll := (World.cells?_some h1).2.1
      obtain ⟨b, hb1, hb2⟩ := hf _ _ _ h2 (by rw [hll, ce]) (hel _ (List.mem_map.2 ⟨i, List.mem_range.2 hi, rfl⟩))
      exact ⟨(b, cs'), h1, hb1, hb2⟩
    obtain ⟨q, hq⟩ := choose_lt each
    refine ⟨_, rfl, (List.range len).map fun i => (q i).1, ⟨some a, cap, by simp, by simp; exact hl, (fun h => by cases h), fun _ _ => trivial, fun hne => ?_⟩, by simpa using hlen, ?_⟩
    · have h0 : 0 < len := by
        rcases Nat.eq_zero_or_pos len with h | h
        · subst h; simp at hne
        · exact h
      obtain ⟨b, o, s⟩ := a
      obtain ⟨_, q1, q2⟩ := World.cells?_some (hq 0 h0).1
      obtain ⟨c0, hc0⟩ : ∃ c0, (q 0).2[0]? = some c0 := by
        rw [List.getElem?_eq_getElem (by omega)]
        exact ⟨_, rfl⟩
      have hc := q2 0 (by omega)
      rw [hc0] at hc
      have hs : s = none := by simpa [Addr.add] using World.cell?_spot hc
      subst hs
      refine ⟨b, o, rfl, fun i hi => ?_⟩
      have hi' : i < len := by simpa using hi
      obtain ⟨g0, g1, g2⟩ := hq i hi'
      obtain ⟨_, r1, r2⟩ := World.cells?_some g0
      refine ⟨(q i).2, by omega, by simpa using g1, fun j u hj => ?_⟩
      have hj' : j < n := by
        have := (List.getElem?_eq_some_iff.1 hj).1
        omega
      have := r2 j (by omega)
      rw [Addr.add_lit, Addr.add_lit, ce, hj] at this
      exact this
    · intro z hz
      obtain ⟨i, hi, rfl⟩ := List.mem_map.1 hz
      exact (hq i (List.mem_range.1 hi)).2.2
theorem reach_le : reachBytes ≤ 140737488355328 := by have := reachBytes_lt; omega
end
end Go.Proofs.YtbllpajibhiobaaDoor

namespace Go.Proofs.YtbllpajibhiobaaDoor
open Go.RowKit Go.Proofs.Leb Go.Proofs.Own Go.ChangeShapes Go.WideShapes Go.Deep
set_option maxRecDepth 100000

instance : Inhabited Ins := ⟨⟨0, 0, 0, 0, 0, 0, 0, [], 0, ⟨#[]⟩, 0, ⟨#[]⟩⟩⟩
theorem list12 {cs : List Value} (h : cs.length = 12) : ∃ c0 c1 c2 c3 c4 c5 c6 c7 c8 c9 c10 c11, cs = [c0, c1, c2, c3, c4, c5, c6, c7, c8, c9, c10, c11] := by
  match cs, h with
  | [c0, c1, c2, c3, c4, c5, c6, c7, c8, c9, c10, c11], _ => exact ⟨c0, c1, c2, c3, c4, c5, c6, c7, c8, c9, c10, c11, rfl⟩
section
variable {H : Type} {enc : TypeId × Value → H} {w : World} {base : Nat} {held : Bool}
theorem nums_of {fuel : Nat} {u : Value} {y : DataW H × List MemPlace} (h : DataW.trod enc Tryd.prog w base (fun _ => true) held fuel 90 [u] = some y) : ∃ ns : List Nat, RdM .u32 w u ns ∧ ∀ z ∈ ns, z < 4294967296 := by
  obtain ⟨a, len, cap, e⟩ := slice_form Tryd.underlying90 h
  obtain rfl : u = _ := by simpa using e
  obtain ⟨zs, hz⟩ : ∃ zs, IsRow .u32 w a len cap zs := by
    rcases open_ints Tryd.underlying90 Tryd.underlying22 (by kernel_rfl) h with ⟨hcs, _⟩ | ⟨x, l, c, zs, hcs, _, hl, hm, hz, _, hcell, hwz⟩
    · simp at hcs
      obtain ⟨rfl, rfl, rfl⟩ := hcs
      exact ⟨[], .inl ⟨rfl, rfl, rfl, rfl⟩⟩
    · simp at hcs
      obtain ⟨rfl, rfl, rfl⟩ := hcs
      exact ⟨zs, .inr ⟨_, rfl, hl, hm, by simpa using hz, hcell, hwz⟩⟩
  obtain ⟨ns, h1, _, _, h4⟩ := rdmOfRow (fun _ h => wf_u32 h) hz
  exact ⟨ns, h1, h4⟩
theorem ins_of (fuel : Nat) (cs : List Value) (x : DataW H × List MemPlace) (h : DataW.trod enc Tryd.prog w base (fun _ => true) held fuel 98 cs = some x) (hl : cs.length = 12) (hL : Light Tryd.prog 98 x.1) : ∃ m : Ins, ER w (fun _ => True) m cs ∧ WfI m := by
  obtain ⟨c0, c1, c2, c3, c4, c5, c6, c7, c8, c9, c10, c11, rfl⟩ := list12 hl
  obtain ⟨n0, y0, g0, l0⟩ := part1 Tryd.underlying98 h hL 0 rfl (by kernel_rfl) (u := c0) rfl
  obtain ⟨a0, e0, _, w0⟩ := DataW.trod_int Tryd.underlying5 g0
  obtain rfl : c0 = _ := by simpa using e0
  obtain ⟨n1, y1, g1, l1⟩ := part1 Tryd.underlying98 h hL 1 rfl (by kernel_rfl) (u := c1) rfl
  obtain ⟨a1, e1, _, w1⟩ := DataW.trod_int Tryd.underlying22 g1
  obtain rfl : c1 = _ := by simpa using e1
  obtain ⟨n2, y2, g2, l2⟩ := part1 Tryd.underlying98 h hL 2 rfl (by kernel_rfl) (u := c2) rfl
  obtain ⟨a2, e2, _, w2⟩ := DataW.trod_int Tryd.underlying3 g2
  obtain rfl : c2 = _ := by simpa using e2
  obtain ⟨n3, y3, g3, l3⟩ := part1 Tryd.underlying98 h hL 3 rfl (by kernel_rfl) (u := c3) rfl
  obtain ⟨a3, e3, _, w3⟩ := DataW.trod_int Tryd.underlying5 g3
  obtain rfl : c3 = _ := by simpa using e3
  obtain ⟨n4, y4, g4, l4⟩ := part1 Tryd.underlying98 h hL 4 rfl (by kernel_rfl) (u := c4) rfl
  obtain ⟨a4, e4, _, w4⟩ := DataW.trod_int Tryd.underlying22 g4
  obtain rfl : c4 = _ := by simpa using e4
  obtain ⟨n5, y5, g5, l5⟩ := part1 Tryd.underlying98 h hL 5 rfl (by kernel_rfl) (u := c5) rfl
  obtain ⟨a5, e5, _, w5⟩ := DataW.trod_int Tryd.underlying22 g5
  obtain rfl : c5 = _ := by simpa using e5
  obtain ⟨n6, y6, g6, l6⟩ := part1 Tryd.underlying98 h hL 6 rfl (by kernel_rfl) (u := c6) rfl
  obtain ⟨a6, e6, _, w6⟩ := DataW.trod_int Tryd.underlying22 g6
  obtain rfl : c6 = _ := by simpa using e6
  obtain ⟨n7, y7, g7, l7⟩ := part1 Tryd.underlying98 h hL 7 rfl (by kernel_rfl) (u := c7) rfl
  obtain ⟨a7, r7, b7⟩ := nums_of g7
  obtain ⟨n8, y8, g8, l8⟩ := part1 Tryd.underlying98 h hL 8 rfl (by kernel_rfl) (u := c8) rfl
  obtain ⟨a8, e8, _, w8⟩ := DataW.trod_int Tryd.underlying2 g8
  obtain rfl : c8 = _ := by simpa using e8
  obtain ⟨n9, y9, g9, l9⟩ := part1 Tryd.underlying98 h hL 9 rfl (by kernel_rfl) (u := c9) rfl
  obtain ⟨a9, e9, _, _⟩ := DataW.trod_string Tryd.underlying9 g9
  obtain rfl : c9 = _ := by simpa using e9
  obtain ⟨n10, y10, g10, l10⟩ := part1 Tryd.underlying98 h hL 10 rfl (by kernel_rfl) (u := c10) rfl
  obtain ⟨a10, e10, _, w10⟩ := DataW.trod_int Tryd.underlying5 g10
  obtain rfl : c10 = _ := by simpa using e10
  obtain ⟨n11, y11, g11, l11⟩ := part1 Tryd.underlying98 h hL 11 rfl (by kernel_rfl) (u := c11) rfl
  obtain ⟨a11, e11, _, _⟩ := DataW.trod_string Tryd.underlying9 g11
  obtain rfl : c11 = _ := by simpa using e11
  exact ⟨⟨a0, a1, a2, a3, a4, a5, a6, a7, a8, a9, a10, a11⟩, ⟨c7, rfl, r7, fun _ _ => trivial⟩, ⟨(wf_u8 w0).1, (wf_u8 w0).2, (wf_u32 w1).1, (wf_u32 w1).2, (wf_u8 w3).1, (wf_u8 w3).2, (wf_u32 w4).1, (wf_u32 w4).2, (wf_u32 w5).1, (wf_u32 w5).2, (wf_u32 w6).1, (wf_u32 w6).2, b7, (wf_i64 w8).1, (wf_i64 w8).2, (wf_u8 w10).1, (wf_u8 w10).2⟩⟩
def WfL (xs : List Ins) : Prop := xs.length ≤ 140737488355328 ∧ ∀ x ∈ xs, WfI x
theorem insL_of (fuel : Nat) (cs : List Value) (y : DataW H × List MemPlace) (h : DataW.trod enc Tryd.prog w base (fun _ => true) held fuel 33 cs = some y) (hL : Light Tryd.prog 33 y.1) : ∃ v, cs = [v] ∧ ∃ xs, RdE 12 ER w (fun _ => True) v xs ∧ WfL xs := by
  obtain ⟨v, e, xs, h1, h2, h3⟩ := rdnOf ER WfI Tryd.underlying33 (e := 98) (n := 12) (by kernel_rfl) (by decide) (of_decide_eq_true (by kernel_rfl)) h hL (fun fuel cs x h hl hL => ins_of fuel cs x h hl hL)
  exact ⟨v, e, xs, h1, Nat.le_trans h2 reach_le, h3⟩
def WfLL (xs : List (List Ins)) : Prop := xs.length ≤ 140737488355328 ∧ ∀ x ∈ xs, WfL x
theorem insLL_of (fuel : Nat) (cs : List Value) (y : DataW H × List MemPlace) (h : DataW.trod enc Tryd.prog w base (fun _ => true) held fuel 36 cs = some y) (hL : Light Tryd.prog 36 y.1) : ∃ v, cs = [v] ∧ ∃ xs, RdE 1 (E1 FXR) w (fun _ => True) v xs ∧ WfLL xs := by
  obtain ⟨v, e, xs, h1, h2, h3⟩ := rdnOf (E1 FXR) WfL Tryd.underlying36 (e := 33) (n := 1) (by kernel_rfl) (by decide) (of_decide_eq_true (by kernel_rfl)) h hL (fun fuel cs x h hl hL => by
    obtain ⟨v, e, xs, h1, h2⟩ := insL_of fuel cs x h hL
    exact ⟨xs, ⟨v, e, h1⟩, h2⟩)
  exact ⟨v, e, xs, h1, Nat.le_trans h2 reach_le, h3⟩
theorem run_of (fuel : Nat) (cs : List Value) (x : DataW H × List MemPlace) (h : DataW.trod enc Tryd.prog w base (fun _ => true) held fuel 82 cs = some x) (hl : cs.length = 2) (hL : Light Tryd.prog 82 x.1) : ∃ m : Nat × Nat, EU w (fun _ => True) m cs ∧ m.1 < 4294967296 ∧ m.2 < 256 := by
  obtain ⟨c0, c1, rfl⟩ : ∃ c0 c1, cs = [c0, c1] := by
    match cs, hl with
    | [c0, c1], _ => exact ⟨c0, c1, rfl⟩
  obtain ⟨n0, y0, g0, l0⟩ := part1 Tryd.underlying82 h hL 0 rfl (by kernel_rfl) (u := c0) rfl
  obtain ⟨n1, y1, g1, l1⟩ := part1 Tryd.underlying82 h hL 1 rfl (by kernel_rfl) (u := c1) rfl
  obtain ⟨a0, e0, _, w0⟩ := DataW.trod_int Tryd.underlying22 g0
  obtain rfl : c0 = _ := by simpa using e0
  obtain ⟨a1, e1, _, w1⟩ := DataW.trod_int Tryd.underlying5 g1
  obtain rfl : c1 = _ := by simpa using e1
  have b0 := wf_u32 w0
  have b1 := wf_u8 w1
  refine ⟨(a0.toNat, a1.toNat), ?_, by simp only; omega, by simp only; omega⟩
  show _ = [_, _]
  congr 2
  · simp only
    omega
  · congr 1
    simp only
    congr 1
    omega
theorem runs_of (fuel : Nat) (cs : List Value) (y : DataW H × List MemPlace) (h : DataW.trod enc Tryd.prog w base (fun _ => true) held fuel 41 cs = some y) (hL : Light Tryd.prog 41 y.1) : ∃ v, cs = [v] ∧ ∃ xs : List (Nat × Nat), RdE 2 EU w (fun _ => True) v xs ∧ xs.length ≤ 140737488355328 ∧ ∀ x ∈ xs, x.1 < 4294967296 ∧ x.2 < 256 := by
  obtain ⟨v, e, xs, h1, h2, h3⟩ := rdnOf EU (fun x => x.1 < 4294967296 ∧ x.2 < 256) Tryd.underlying41 (e := 82) (n := 2) (by kernel_rfl) (by decide) (of_decide_eq_true (by kernel_rfl)) h hL (fun fuel cs x h hl hL => run_of fuel cs x h hl hL)
  exact ⟨v, e, xs, h1, Nat.le_trans h2 reach_le, h3⟩
def EntWf (n : Ent) : Prop := WfL n.g.l ∧ WfL n.e.off ∧ WfLL n.e.l ∧ WfL n.d.off ∧ WfL n.c.b ∧ ∀ x ∈ n.c.ls, x.1 < 4294967296 ∧ x.2 < 256
theorem str_of {fuel : Nat} {u : Value} {y : DataW H × List MemPlace} (h : DataW.trod enc Tryd.prog w base (fun _ => true) held fuel 9 [u] = some y) (hL : Light Tryd.prog 9 y.1) : ∃ s : ByteArray, u = .string s ∧ s.size ≤ 140737488355328 := by
  obtain ⟨s, e, rfl, _⟩ := DataW.trod_string Tryd.underlying9 h
  have h1 := Light.str hL
  have h2 := reach_le
  exact ⟨s, by simpa using e, by simp at h1; omega⟩
theorem list30 {cs : List Value} (h : cs.length = 30) : ∃ c0 c1 c2 c3 c4 c5 c6 c7 c8 c9 c10 c11 c12 c13 c14 c15 c16 c17 c18 c19 c20 c21 c22 c23 c24 c25 c26 c27 c28 c29, cs = [c0, c1, c2, c3, c4, c5, c6, c7, c8, c9, c10, c11, c12, c13, c14, c15, c16, c17, c18, c19, c20, c21, c22, c23, c24, c25, c26, c27, c28, c29] := by
  match cs, h with
  | [c0, c1, c2, c3, c4, c5, c6, c7, c8, c9, c10, c11, c12, c13, c14, c15, c16, c17, c18, c19, c20, c21, c22, c23, c24, c25, c26, c27, c28, c29], _ => exact ⟨c0, c1, c2, c3, c4, c5, c6, c7, c8, c9, c10, c11, c12, c13, c14, c15, c16, c17, c18, c19, c20, c21, c22, c23, c24, c25, c26, c27, c28, c29, rfl⟩
theorem ent_of (fuel : Nat) (cs : List Value) (x : DataW H × List MemPlace) (h : DataW.trod enc Tryd.prog w base (fun _ => true) held fuel 45 cs = some x) (hL : Light Tryd.prog 45 x.1) :
    ∃ n : Ent, cs = (entC n).toList ∧ EntOk w n ∧ EntSz n ∧ EntWf n := by
  have hl := struct_len Tryd.underlying45 h
  rw [show Tryd.prog.cellsOf 45 = 30 by kernel_rfl] at hl
  obtain ⟨c0, c1, c2, c3, c4, c5, c6, c7, c8, c9, c10, c11, c12, c13, c14, c15, c16, c17, c18, c19, c20, c21, c22, c23, c24, c25, c26, c27, c28, c29, rfl⟩ := list30 hl
  clear hl
  obtain ⟨_, yI, gI, lI⟩ := partN Tryd.underlying45 h hL 0 rfl (k := 13) (by kernel_rfl) (ds := [c0, c1, c2, c3, c4, c5, c6, c7, c8, c9, c10, c11, c12]) rfl
  obtain ⟨_, yX, gX, lX⟩ := partN Tryd.underlying45 h hL 1 rfl (k := 3) (by kernel_rfl) (ds := [c13, c14, c15]) rfl
  obtain ⟨_, yG, gG, lG⟩ := partN Tryd.underlying45 h hL 2 rfl (k := 3) (by kernel_rfl) (ds := [c16, c17, c18]) rfl
  obtain ⟨_, yE, gE, lE⟩ := partN Tryd.underlying45 h hL 3 rfl (k := 5) (by kernel_rfl) (ds := [c19, c20, c21, c22, c23]) rfl
  obtain ⟨_, yD, gD, lD⟩ := partN Tryd.underlying45 h hL 4 rfl (k := 4) (by kernel_rfl) (ds := [c24, c25, c26, c27]) rfl
  obtain ⟨_, yC, gC', lC⟩ := partN Tryd.underlying45 h hL 5 rfl (k := 2) (by kernel_rfl) (ds := [c28, c29]) rfl
  clear h hL
  obtain ⟨_, _, g0, l0⟩ := part1 Tryd.underlying30 gI lI 0 rfl (by kernel_rfl) (u := c0) rfl
  obtain ⟨_, _, g1, l1⟩ := part1 Tryd.underlying30 gI lI 1 rfl (by kernel_rfl) (u := c1) rfl
  obtain ⟨_, _, g13, l13⟩ := part1 Tryd.underlying32 gX lX 0 rfl (by kernel_rfl) (u := c13) rfl
  obtain ⟨i0, rfl, z0⟩ := str_of g0 l0
  obtain ⟨i1, rfl, z1⟩ := str_of g1 l1
  obtain ⟨x0, rfl, z13⟩ := str_of g13 l13
  obtain ⟨_, _, gt, lt⟩ := partN Tryd.underlying35 gG lG 0 rfl (k := 2) (by kernel_rfl) (ds := [c16, c17]) rfl
  obtain ⟨_, _, g16, l16⟩ := part1 Tryd.underlying28 gt lt 0 rfl (by kernel_rfl) (u := c16) rfl
  obtain ⟨_, _, g17, l17⟩ := part1 Tryd.underlying28 gt lt 1 rfl (by kernel_rfl) (u := c17) rfl
  obtain ⟨gt0, e16, _, w16⟩ := DataW.trod_int Tryd.underlying5 g16
  obtain rfl : c16 = _ := by simpa using e16
  obtain ⟨gm, e17, _⟩ := DataW.trod_bool Tryd.underlying4 g17
  obtain rfl : c17 = _ := by simpa using e17
  obtain ⟨_, _, g18, l18⟩ := part1 Tryd.underlying35 gG lG 1 rfl (by kernel_rfl) (u := c18) rfl
  obtain ⟨_, e18, gl, r18, q18⟩ := insL_of _ _ _ g18 l18
  cases e18
  obtain ⟨_, _, g19, l19⟩ := part1 Tryd.underlying38 gE lE 0 rfl (by kernel_rfl) (u := c19) rfl
  obtain ⟨_, _, g20, l20⟩ := part1 Tryd.underlying38 gE lE 1 rfl (by kernel_rfl) (u := c20) rfl
  obtain ⟨_, _, g21, l21⟩ := part1 Tryd.underlying38 gE lE 2 rfl (by kernel_rfl) (u := c21) rfl
  obtain ⟨_, _, g22, l22⟩ := part1 Tryd.underlying38 gE lE 3 rfl (by kernel_rfl) (u := c22) rfl
  obtain ⟨_, _, g23, l23⟩ := part1 Tryd.underlying38 gE lE 4 rfl (by kernel_rfl) (u := c23) rfl
  obtain ⟨emo, e19, _, w19⟩ := DataW.trod_int Tryd.underlying3 g19
  obtain rfl : c19 = _ := by simpa using e19
  obtain ⟨ety, e20, _, w20⟩ := DataW.trod_int Tryd.underlying5 g20
  obtain rfl : c20 = _ := by simpa using e20
  obtain ⟨etb, e21, _, w21⟩ := DataW.trod_int Tryd.underlying22 g21
  obtain rfl : c21 = _ := by simpa using e21
  obtain ⟨_, e22, eo, r22, q22⟩ := insL_of _ _ _ g22 l22
  cases e22
  obtain ⟨_, e23, el, r23, q23⟩ := insLL_of _ _ _ g23 l23
  cases e23
  obtain ⟨_, _, g24, l24⟩ := part1 Tryd.underlying40 gD lD 0 rfl (by kernel_rfl) (u := c24) rfl
  obtain ⟨_, _, g25, l25⟩ := part1 Tryd.underlying40 gD lD 1 rfl (by kernel_rfl) (u := c25) rfl
  obtain ⟨_, _, g26, l26⟩ := part1 Tryd.underlying40 gD lD 2 rfl (by kernel_rfl) (u := c26) rfl
  obtain ⟨_, _, g27, l27⟩ := part1 Tryd.underlying40 gD lD 3 rfl (by kernel_rfl) (u := c27) rfl
  obtain ⟨da, e24, _⟩ := DataW.trod_bool Tryd.underlying4 g24
  obtain rfl : c24 = _ := by simpa using e24
  obtain ⟨dme, e25, _, w25⟩ := DataW.trod_int Tryd.underlying22 g25
  obtain rfl : c25 = _ := by simpa using e25
  obtain ⟨_, e26, dof, r26, q26⟩ := insL_of _ _ _ g26 l26
  cases e26
  obtain ⟨ds, rfl, z27⟩ := str_of g27 l27
  obtain ⟨_, _, g28, l28⟩ := part1 Tryd.underlying43 gC' lC 0 rfl (by kernel_rfl) (u := c28) rfl
  obtain ⟨_, _, g29, l29⟩ := part1 Tryd.underlying43 gC' lC 1 rfl (by kernel_rfl) (u := c29) rfl
  obtain ⟨_, e28, cl, r28, q28⟩ := runs_of _ _ _ g28 l28
  cases e28
  obtain ⟨_, e29, cb, r29, q29⟩ := insL_of _ _ _ g29 l29
  cases e29
  exact ⟨⟨i0, i1, c2, c3, c4, c5, c6, c7, c8, c9, c10, c11, c12, x0, c14, c15, ⟨gt0, gm, gl⟩, c18, ⟨emo, ety, etb, eo, el⟩, c22, c23, ⟨da, dme, dof, ds⟩, c26, ⟨cl, cb⟩, c28, c29⟩, rfl,
    ⟨r18, r22, r23, r26, r28, r29⟩, ⟨z0, z1, z13, z27, q18.1, q22.1, q23.1, fun x hx => (q23.2 x hx).1, q26.1, q28.1, q29.1⟩, ⟨q18, q22, q23, q26, q29, q28.2⟩⟩
end
end Go.Proofs.YtbllpajibhiobaaDoor
