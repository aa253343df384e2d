/-
  The laws of the cursor: what the program's answers are laid in; small contracts.
-/
import Derived.Test.YtkfohickmdkplaaJ44
import Derived.Test.YtkfohickmdkplaaJ34
import Derived.Test.YtkfohickmdkplaaJ20
import Derived.Test.YtkfohickmdkplaaJ28
namespace Go.Proofs.Ytkfohickmdkplaa
open Go.RowKit Go.Proofs.Leb Go.Proofs.Own Go.Proofs.Cur Go.Proofs.Span
set_option maxRecDepth 100000
set_option maxHeartbeats 4000000

/-- the cell of the texts, their row -/
def S0 (Bo : Nat) (u : Value) (k : Nat) : Prop := k = Bo ∨ u.ownBlock = some k
/-- .. and the cursor -/
def SS (C Bo : Nat) (u : Value) (k : Nat) : Prop := k = C ∨ S0 Bo u k
/-- the row is the one that it was, or one made anew -/
def Grown (w : World) (u u' : Value) : Prop := ∀ k, u'.ownBlock = some k → u.ownBlock = some k ∨ w.heap.size ≤ k
theorem Grown.refl (w : World) (u : Value) : Grown w u u := fun _ h => .inl h
theorem Grown.trans {a b : World} {u v x : Value} (h : Grown a u v) (hs : a.heap.size ≤ b.heap.size) (k : Grown b v x) : Grown a u x := fun i hi => by
  rcases k i hi with h1 | h1
  · exact h i h1
  · exact .inr (Nat.le_trans hs h1)
theorem Grown.of {w w' : World} {u v : Value} (ha : Adds w w' u v) : Grown w u v := fun k hk => by
  rcases ha.at' with e | ⟨j, e, hj⟩
  · exact .inl (by rw [← e]; exact hk)
  · rw [e] at hk; cases hk; exact .inr hj
theorem Texts.slice {w : World} {v : Value} {ts : List (List UInt8)} (h : Texts w v ts) : ∃ a n c, v = .slice a n c := by
  obtain ⟨a, c, e⟩ := h.rd.shape
  exact ⟨a, _, c, e⟩
/-- texts in a row that a cell holds -/
structure Outs (w : World) (Bo : Nat) (u : Value) (ds : List (List UInt8)) : Prop where
  cell : One1 w Bo u
  txt : Texts w u ds
  apart : u.ownBlock ≠ some Bo
theorem Outs.lt {w : World} {Bo : Nat} {u : Value} {ds : List (List UInt8)} (h : Outs w Bo u ds) : ∀ k, u.ownBlock = some k → k < w.heap.size := fun k hk => (World.ownsRow.lt h.txt k hk).2
theorem Outs.upd {S : Nat → Prop} {w w' : World} {Bo : Nat} {u : Value} {ds : List (List UInt8)} (h : Outs w Bo u ds) (hu : Upd S w w') (h1 : ∀ k, S0 Bo u k → ¬ S k) : Outs w' Bo u ds :=
  ⟨h.cell.upd hu (h1 _ (.inl rfl)), h.txt.upd hu (fun k hk => h1 k (.inr hk)), h.apart⟩
theorem Outs.new {w w' : World} {Bo : Nat} {u : Value} {ds : List (List UInt8)} (h : Outs w Bo u ds) (hu : New w w') : Outs w' Bo u ds := h.upd hu (fun _ _ h => h)
theorem Outs.stored {w w1 : World} {Bo : Nat} {u v : Value} {ds ds' : List (List UInt8)} (h : Outs w Bo u ds) (ha : Adds w w1 u v) (ht : Texts w1 v ds') :
    Outs (w1.setCell ⟨Bo, 0, none⟩ v) Bo v ds' ∧ Upd (S0 Bo u) w (w1.setCell ⟨Bo, 0, none⟩ v) ∧ Grown w u v := by
  have hb : One1 w1 Bo u := h.cell.upd ha.upd h.apart
  have hg := Grown.of ha
  have hv : v.ownBlock ≠ some Bo := fun e => by
    rcases hg _ e with h1 | h1
    · exact h.apart h1
    · have := h.cell.lt; omega
  have hs : Upd (· = Bo) w1 (w1.setCell ⟨Bo, 0, none⟩ v) := (Upd.refl (· = Bo) w1).setCell (p := ⟨Bo, 0, none⟩) (.inr rfl) v
  refine ⟨⟨hb.put, ht.upd hs (fun k hk e => hv (by rw [hk, e])), hv⟩, ?_, hg⟩
  exact (ha.upd.mono (T := S0 Bo u) (fun k _ h => .inr h)).trans hs (fun k _ h => .inl h)
/-- cursor, cell, row and bytes are apart -/
structure Sep (C Bo : Nat) (vb : Value) (bs : List UInt8) (u : Value) : Prop where
  co : ¬ S0 Bo u C
  vo : bs ≠ [] → ∀ k, vb.ownBlock = some k → ¬ S0 Bo u k
theorem Sep.grow {C Bo : Nat} {vb : Value} {bs : List UInt8} {u u' : Value} {w : World} (h : Sep C Bo vb bs u) (hg : Grown w u u') (hC : C < w.heap.size) (hv : bs ≠ [] → ∀ k, vb.ownBlock = some k → k < w.heap.size) : Sep C Bo vb bs u' := by
  refine ⟨fun e => ?_, fun hne k hk e => ?_⟩
  · rcases e with e | e
    · exact h.co (.inl e)
    · rcases hg _ e with h1 | h1
      · exact h.co (.inr h1)
      · omega
  · rcases e with e | e
    · exact h.vo hne k hk (.inl e)
    · rcases hg _ e with h1 | h1
      · exact h.vo hne k hk (.inr h1)
      · have := hv hne k hk; omega
theorem Sep.cur {S : Nat → Prop} {C Bo : Nat} {vb : Value} {bs : List UInt8} {u : Value} {w w' : World} {p : Nat} {lim : Int} {er : Nat} (h : Sep C Bo vb bs u) (hc : Cur w C vb bs p lim er) (hu : Upd S w w') (hS : ∀ k, S k → S0 Bo u k) : Cur w' C vb bs p lim er :=
  hc.upd hu (fun e => h.co (hS _ e)) (fun hne k hk e => h.vo hne k hk (hS _ e))

/-- one row of texts more, as a step of a region -/
theorem rowTStep {K : Act → World → Prop} {a : Act} {W : World} (ts : List (List UInt8)) (h : ∀ W2, New W W2 → RdT W2 (.slice (some ⟨W.heap.size, 0, none⟩) ts.length ts.length) ts → K a W2) :
    K a (W.alloc (.cells (ts.map strV).toArray 9)) := h _ ((Upd.refl _ _).alloc _) (RdT.lit W ts _)
/-- one byte's row, likewise -/
theorem rowBStep {K : Act → World → Prop} {a : Act} {W : World} (x : UInt8) (h : ∀ W2, New W W2 → (convert 22 9 (.slice (some ⟨W.heap.size, 0, none⟩) 1 1)).run Try.prog W2 = .ok (.string ⟨[x].toArray⟩) W2 → K a W2) :
    K a (W.alloc (.cells #[.int .u8 x.toNat] 5)) := h _ ((Upd.refl _ _).alloc _) (conv1 W x)

theorem want_made (x : Wnt) (pv : Value) (w : World) :
    Calls Try.prog 22 #[.agg (valW x pv)] w fun e w' => ∃ g, e = .returned (.func (.func 49) #[] #[.pointer (some ⟨g, 0, none⟩)]) ∧ New w w' ∧ w.heap.size ≤ g ∧ w'.heap[g]? = some (.cells (valW x pv) 47) := by
  have hmf : ∀ (fn : Fn) (first cap : Array Value) (w : World), (Instr.makeFunc fn first cap).run Try.prog w = .ok (.func fn first cap) w := fun _ _ _ _ => rfl
  unfold valW
  go_enter Try.func22, Try.ntmps22
  go_wp2_with fail
  go_ret
  exact ⟨_, rfl, (Upd.refl _ _).alloc _, Nat.le_refl _, hp_new rfl⟩
end Go.Proofs.Ytkfohickmdkplaa

namespace Go.Proofs.Ytkfohickmdkplaa
open Go.RowKit Go.Proofs.Leb Go.Proofs.Own Go.Proofs.Cur Go.Proofs.Span
set_option maxRecDepth 100000
set_option maxHeartbeats 4000000

theorem asked2_any (C Bo Bc Bl Bi Bb b o len cap i : Nat) (w : World) (Post : Ending → World → Prop)
    (kc : w.cell? ⟨Bc, 0, none⟩ = some (.pointer (some ⟨C, 0, none⟩))) (kl : w.cell? ⟨Bl, 0, none⟩ = some (.slice (some ⟨b, o, none⟩) len cap)) (ki : w.cell? ⟨Bi, 0, none⟩ = some (.int .i64 i)) (kb : w.cell? ⟨Bb, 0, none⟩ = some (.pointer (some ⟨Bo, 0, none⟩)))
    (hi : i + 1 ≤ len) (hc : len ≤ cap) (hm : len ≤ 1000) (V : Value → Prop) (hV : i + 1 < cap → V (.slice (some ⟨b, o + (i + 1) * 14, none⟩) (len - (i + 1)) (cap - (i + 1)))) (hV0 : cap = i + 1 → V (.slice (some ⟨b, o, none⟩) 0 0))
    (hP : (∀ e w', Post e w' → e = .returned (.tuple #[])) ∨ (∀ e w', Post e w' → ∃ ch, e = .panicked ch))
    (H : ∀ W v, New w W → V v → Calls Try.prog 8 #[.pointer (some ⟨C, 0, none⟩), v, .pointer (some ⟨Bo, 0, none⟩)] W Post) :
    Calls Try.prog 28 #[.pointer (some ⟨Bc, 0, none⟩), .pointer (some ⟨Bl, 0, none⟩), .pointer (some ⟨Bi, 0, none⟩), .pointer (some ⟨Bb, 0, none⟩)] w Post := by
  have HH := hid H
  have HV := hid hV
  have HV0 := hid hV0
  have HP := hid hP
  clear H hV hV0 hP
  have hw : IntKind.i64.wrap ((i : Int) + 1) = ((i + 1 : Nat) : Int) := by rw [IntWalk.i64_in _ (by omega)]; omega
  have h0 : (0 : Int) ≤ (i : Int) + 1 := by omega
  have h1 : (i : Int) + 1 ≤ (len : Int) := by omega
  by_cases hce : cap = i + 1
  · have HZ := hid (HV0.out hce)
    have hle : len = i + 1 := by omega
    subst hce
    go_enter Try.func28, Try.ntmps28
    go_wp2_with fail
    go_still_tail 6, (by kernel_rfl)
    change wpList _ _ _ _ _ w.drew
    have hnn : New w w.drew := (Upd.refl _ _).drew
    generalize w.drew = wd at *
    have HC := hid (HH.out wd _ hnn HZ.out)
    go_wp2_with fail
    rcases HP.out with hp | hp
    · refine HC.out.mono ?_
      intro e w2 h2
      have H2 := hid h2
      obtain rfl := hp e w2 h2
      go_wp2_with fail
      go_end0
      exact H2.out
    · refine HC.out.mono ?_
      intro e w2 h2
      have H2 := hid h2
      obtain ⟨ch, rfl⟩ := hp e w2 h2
      go_wp2_with fail
      exact ⟨rfl, H2.out⟩
  · have hcl : i + 1 < cap := by omega
    have HZ := hid (HV.out hcl)
    go_enter Try.func28, Try.ntmps28
    go_wp2_with fail
    go_still_tail 6, (by kernel_rfl)
    change wpList _ _ _ _ _ w.drew
    have hnn : New w w.drew := (Upd.refl _ _).drew
    generalize w.drew = wd at *
    have HC := hid (HH.out wd _ hnn HZ.out)
    go_wp2_with fail
    rcases HP.out with hp | hp
    · refine HC.out.mono ?_
      intro e w2 h2
      have H2 := hid h2
      obtain rfl := hp e w2 h2
      go_wp2_with fail
      go_end0
      exact H2.out
    · refine HC.out.mono ?_
      intro e w2 h2
      have H2 := hid h2
      obtain ⟨ch, rfl⟩ := hp e w2 h2
      go_wp2_with fail
      exact ⟨rfl, H2.out⟩
end Go.Proofs.Ytkfohickmdkplaa

namespace Go.Proofs.Ytkfohickmdkplaa
open Go.RowKit Go.Proofs.Leb Go.Proofs.Own Go.Proofs.Cur Go.Proofs.Span
set_option maxRecDepth 100000
set_option maxHeartbeats 40000000

/-- what the program's answers come to -/
def AskP (w : World) (C Bo : Nat) (vb : Value) (bs : List UInt8) (lim : Int) (u : Value) (ds : List (List UInt8)) (o : List (List UInt8) × Out Unit) (e : Ending) (w' : World) : Prop :=
  Upd (SS C Bo u) w w' ∧ Did C vb bs lim o.2 w' e ∧ ∃ u', Outs w' Bo u' (ds ++ o.1) ∧ Grown w u u'
/-- before the i-th ask -/
structure AskI (w3 : World) (C Bo : Nat) (vb : Value) (bs : List UInt8) (lim : Int) (u0 : Value) (ds : List (List UInt8)) (l : List AskM) (O : List (List UInt8) × Out Unit) (i Bi : Nat) (u : Value) (pre : List (List UInt8)) (q : Nat) (wr : World) : Prop where
  up : Upd (SS C Bo u0) w3 wr
  out : Outs wr Bo u (ds ++ pre)
  gr : Grown w3 u0 u
  cur : Cur wr C vb bs q lim 0
  inv : Inv bs.length lim q
  bi : One1 wr Bi (.int .i64 i)
  bn : w3.heap.size ≤ Bi
  ui : u.ownBlock ≠ some Bi
  pl : pre.length = 3 * i
  ho1 : O.1 = pre ++ (allO bs (l.drop i) lim q).1
  ho2 : O.2 = (allO bs (l.drop i) lim q).2
/-- behind the switch -/
structure AskJ (w4 : World) (C Bo : Nat) (vb : Value) (bs : List UInt8) (lim : Int) (u : Value) (D : List (List UInt8)) (a : AskM) (q : Nat) (s : List UInt8) (q' : Nat) (u' : Value) (wx : World) : Prop where
  ao : askO bs lim a q = .ok s q'
  d5 : a.doo % 6 ≠ 5
  up : Upd (SS C Bo u) w4 wx
  out : Outs wx Bo u' (D ++ [s])
  gr : Grown w4 u u'
  cur : Cur wx C vb bs q' lim 0
theorem box_ns {w w3 : World} {C Bo : Nat} {u0 u : Value} {k : Nat} (hC : C < w.heap.size) (hB : Bo < w.heap.size) (hu : ∀ k, u0.ownBlock = some k → k < w.heap.size) (hg : Grown w3 u0 u) (h1 : w.heap.size ≤ k) (h2 : k < w3.heap.size) : ¬ SS C Bo u k := by
  rintro (h | h | h)
  · omega
  · omega
  · rcases hg k h with h3 | h3
    · have := hu k h3; omega
    · omega
theorem ss_grow {a b c : World} {C Bo : Nat} {u0 u : Value} (h : Upd (SS C Bo u0) a b) (hg : Grown a u0 u) (k : Upd (SS C Bo u) b c) : Upd (SS C Bo u0) a c := h.trans k (fun i hi hs => by
  rcases hs with e | e | e
  · exact .inl e
  · exact .inr (.inl e)
  · rcases hg i e with h1 | h1
    · exact .inr (.inr h1)
    · omega)
theorem inv_lim {n : Nat} {lim : Int} {p : Nat} (h : Inv n lim p) (r0 : 0 ≤ rest lim (p + 1)) : lim = -1 ∨ (((p + 1 : Nat) : Int) ≤ lim ∧ lim ≤ (p + 1 : Nat) + 1099511627776) := by
  have := h.lim
  unfold rest at r0
  split at r0 <;> omega
theorem AskI.next {w3 w4 w5 w6 wr : World} {C Bo : Nat} {vb : Value} {bs : List UInt8} {lim : Int} {u0 u u' u2 : Value} {ds pre : List (List UInt8)} {l : List AskM} {O : List (List UInt8) × Out Unit} {i Bi q q' rn : Nat} {a : AskM} {s : List UInt8}
    (ir : AskI w3 C Bo vb bs lim u0 ds l O i Bi u pre q wr) (hn4 : New wr w4) (hj : AskJ w4 C Bo vb bs lim u (ds ++ pre) a q s q' u' w5) (ht : l.drop i = a :: l.drop (i + 1))
    (ho2 : Outs w6 Bo u2 (ds ++ pre ++ [s] ++ [numL q' 8, numL rn 8])) (hu2 : Upd (SS C Bo u') w5 w6) (hg2 : Grown w5 u' u2) (hc2 : Cur w6 C vb bs q' lim 0) (hi : Inv bs.length lim q') (hrn : (rest lim q').toNat = rn) :
    AskI w3 C Bo vb bs lim u0 ds l O (i + 1) w6.heap.size u2 (pre ++ [s, numL q' 8, numL rn 8]) q' (w6.alloc (.cells #[.int .i64 ((i : Int) + 1)] 3)) := by
  have hn7 : New w6 (w6.alloc (.cells #[.int .i64 ((i : Int) + 1)] 3)) := (Upd.refl _ _).alloc _
  have hz : One1 (w6.alloc (.cells #[.int .i64 ((i : Int) + 1)] 3)) w6.heap.size (.int .i64 ((i : Int) + 1)) := One1.mk rfl
  have gr5 : Grown w3 u0 u' := ir.gr.trans (Nat.le_trans ir.up.size hn4.size) hj.gr
  have U46 : Upd (SS C Bo u0) w3 w6 := ss_grow (ss_grow (ir.up.thenNew hn4) ir.gr hj.up) gr5 hu2
  have G6 : Grown w3 u0 u2 := gr5.trans (Nat.le_trans (Nat.le_trans ir.up.size hn4.size) hj.up.size) hg2
  have h1 := ir.ho1
  have h2 := ir.ho2
  rw [ht, allO_ok hj.d5 hj.ao] at h1 h2
  refine ⟨U46.thenNew hn7, ?_, G6, hc2.new hn7, hi, ?_, U46.size, ?_, ?_, ?_, h2⟩
  · have := ho2.new hn7
    simpa using this
  · simpa using hz
  · intro e
    have := ho2.lt _ e
    omega
  · have := ir.pl
    simp
    omega
  · rw [h1, hrn]
    simp
/-- what is said of the program's answers -/
def AskedAny : Prop := ∀ (n : Nat) (l : List AskM) (v : Value) (Bk : Nat → Prop) (w : World) (C Bo : Nat) (vb : Value) (bs : List UInt8) (lim : Int) (p : Nat) (u : Value) (ds : List (List UInt8)), l.length < n → l.length ≤ 30 → RdA w Bk v l → (∀ k, Bk k → k < w.heap.size ∧ ¬ SS C Bo u k) → (∀ a ∈ l, WfA a) → (∀ a ∈ l, FineA a) → ds.length + 3 * l.length ≤ 1000 →
    Sep C Bo vb bs u → Cur w C vb bs p lim 0 → Inv bs.length lim p → Outs w Bo u ds → Calls Try.prog 8 #[.pointer (some ⟨C, 0, none⟩), v, .pointer (some ⟨Bo, 0, none⟩)] w (AskP w C Bo vb bs lim u ds (allO bs l lim p))
end Go.Proofs.Ytkfohickmdkplaa

namespace Go.Proofs.Ytkfohickmdkplaa
open Go.RowKit Go.Proofs.Leb Go.Proofs.Own Go.Proofs.Cur Go.Proofs.Span
set_option maxRecDepth 100000
set_option maxHeartbeats 4000000
def okO (o : Out Unit) : Bool := match o with | .ok _ _ => true | .up _ _ => false
theorem reads1_any (C Bl Bo Be : Nat) (v vb : Value) (bs : List UInt8) (lim : Int) (w1 : World) (O : List (List UInt8) × Out Unit) (hl : One1 w1 Bl v) (he : One1 w1 Be (.bool false)) (n1 : Be ≠ C) (n2 : Be ≠ Bo) (n3 : bs ≠ [] → vb.ownBlock ≠ some Be)
    (ha : Calls Try.prog 8 #[.pointer (some ⟨C, 0, none⟩), v, .pointer (some ⟨Bo, 0, none⟩)] w1 (AskP w1 C Bo vb bs lim (.slice none 0 0) [] O)) :
    Calls Try.prog 7 #[.pointer (some ⟨C, 0, none⟩), .pointer (some ⟨Bl, 0, none⟩), .pointer (some ⟨Bo, 0, none⟩), .pointer (some ⟨Be, 0, none⟩)] w1
      (fun e w2 => Upd (fun k => k = C ∨ (k = Bo ∨ k = Be)) w1 w2 ∧ Did C vb bs lim O.2 w2 e ∧ ((∃ ux, Outs w2 Bo ux O.1 ∧ ∀ k, ux.ownBlock = some k → w1.heap.size ≤ k) ∧ One1 w2 Be (.bool (okO O.2)))) := by
  have HA := hid ha
  have HE := hid he
  have HEL := he.lt
  have z0 := hl.c
  clear ha hl he
  go_enter Try.func7, Try.ntmps7
  go_wp2_with fail
  refine HA.out.mono ?_
  rintro e w2 ⟨hu, hd, ux, ho, hg⟩
  have hss : ∀ k, SS C Bo (.slice none 0 0) k → k = C ∨ k = Bo := fun k h => by
    rcases h with h | h | h
    · exact .inl h
    · exact .inr h
    · cases h
  have hu2 : Upd (fun k => k = C ∨ (k = Bo ∨ k = Be)) w1 w2 := hu.mono (fun k _ h => by rcases hss k h with h | h; exact .inl h; exact .inr (.inl h))
  have hbe : One1 w2 Be (.bool false) := HE.out.upd hu (fun h => by rcases hss _ h with h | h; exact n1 h; exact n2 h)
  have hg' : ∀ k, ux.ownBlock = some k → w1.heap.size ≤ k := fun k hk => by
    rcases hg k hk with h | h
    · cases h
    · exact h
  obtain ⟨o1, o2⟩ := O
  cases o2 with
  | up q er =>
    obtain ⟨rfl, hc⟩ := hd
    have HC := hid hc
    have HU := hid hu2
    have HB := hid hbe
    have HO := hid ho
    have HG := hid hg'
    clear hc hu2 hbe ho hg' hu hg hss
    go_wp2_with fail
    exact ⟨rfl, HU.out, ⟨rfl, HC.out⟩, ⟨ux, HO.out, HG.out⟩, HB.out⟩
  | ok z q =>
    obtain ⟨rfl, hc⟩ := hd
    have hs : Upd (· = Be) w2 (w2.setCell ⟨Be, 0, none⟩ (.bool true)) := (Upd.refl (· = Be) w2).setCell (p := ⟨Be, 0, none⟩) (.inr rfl) _
    have HC := hid (hc.upd hs (fun h => n1 h.symm) (fun hne k hk h => n3 hne (by rw [hk, h])))
    have HU := hid (hu2.trans hs (fun k _ h => .inr (.inr h)))
    have HB := hid (hbe.put (v := .bool true))
    have HO := hid (ho.upd hs (fun k hk e => by
      rcases hk with h | h
      · omega
      · have := hg' k h; omega))
    have HG := hid hg'
    have y1 := hbe.c
    have y2 := hbe.f
    clear hc hu2 hbe ho hg' hu hg hss hs
    go_wp2_with fail
    go_end0
    exact ⟨HU.out, ⟨rfl, HC.out⟩, ⟨ux, HO.out, HG.out⟩, HB.out⟩
end Go.Proofs.Ytkfohickmdkplaa
