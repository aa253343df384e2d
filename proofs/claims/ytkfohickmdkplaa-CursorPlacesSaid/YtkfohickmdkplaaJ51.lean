/-
  Plain mathematics of reading: what comes of it hangs on the bytes up to the place alone.
-/
import Derived.Test.YtkfohickmdkplaaJ34
namespace Go.Proofs.Cur
open Go.Proofs.Leb Go.Proofs.Span
/-- the same first k bytes -/
def Ag (k : Nat) (bs bs' : List UInt8) : Prop := k ≤ bs'.length ∧ bs'.take k = bs.take k
theorem Ag.mono {q r : Nat} {bs bs' : List UInt8} (h : Ag r bs bs') (hq : q ≤ r) : Ag q bs bs' := by
  refine ⟨Nat.le_trans hq h.1, ?_⟩
  have := congrArg (List.take q) h.2
  rw [List.take_take, List.take_take, Nat.min_eq_left hq] at this
  exact this
theorem Ag.get {r p : Nat} {bs bs' : List UInt8} (h : Ag r bs bs') (hp : p < r) (hb : p < bs.length) : ∃ h' : p < bs'.length, bs'[p] = bs[p] := by
  have h1 := h.1
  refine ⟨by omega, ?_⟩
  have := congrArg (fun l => l[p]?) h.2
  simp only [List.getElem?_take, if_pos hp] at this
  rw [List.getElem?_eq_getElem hb, List.getElem?_eq_getElem (by omega)] at this
  exact Option.some.inj this
/-- F, begun at p, hangs on the bytes up to its place -/
def Near {α : Type} (bs : List UInt8) (F : List UInt8 → Out α) (p : Nat) : Prop := match F bs with
  | .ok a q => p ≤ q ∧ q ≤ bs.length ∧ ∀ bs', Ag q bs bs' → F bs' = .ok a q
  | .up q er => p ≤ q ∧ q ≤ bs.length ∧ ((er = 1 ∧ q = bs.length) ∨ (er = 2 ∧ (q < bs.length → ∀ bs', Ag (q + 1) bs bs' → F bs' = .up q 2) ∧ ∀ bs', bs'.length = q → Ag q bs bs' → F bs' = .up q 1 ∨ F bs' = .up q 2))
theorem Near.ok {α : Type} {bs : List UInt8} {F : List UInt8 → Out α} {p q : Nat} {a : α} (h : Near bs F p) (e : F bs = .ok a q) : p ≤ q ∧ q ≤ bs.length ∧ ∀ bs', Ag q bs bs' → F bs' = .ok a q := by
  unfold Near at h
  rw [e] at h
  exact h
theorem Near.up {α : Type} {bs : List UInt8} {F : List UInt8 → Out α} {p q er : Nat} (h : Near bs F p) (e : F bs = .up q er) : p ≤ q ∧ q ≤ bs.length ∧ ((er = 1 ∧ q = bs.length) ∨ (er = 2 ∧ (q < bs.length → ∀ bs', Ag (q + 1) bs bs' → F bs' = .up q 2) ∧ ∀ bs', bs'.length = q → Ag q bs bs' → F bs' = .up q 1 ∨ F bs' = .up q 2)) := by
  unfold Near at h
  rw [e] at h
  exact h
theorem Near.mkOk {α : Type} {bs : List UInt8} {F : List UInt8 → Out α} {p q : Nat} {a : α} (e : F bs = .ok a q) (h : p ≤ q ∧ q ≤ bs.length ∧ ∀ bs', Ag q bs bs' → F bs' = .ok a q) : Near bs F p := by
  unfold Near; rw [e]; exact h
theorem Near.mkUp {α : Type} {bs : List UInt8} {F : List UInt8 → Out α} {p q er : Nat} (e : F bs = .up q er) (h : p ≤ q ∧ q ≤ bs.length ∧ ((er = 1 ∧ q = bs.length) ∨ (er = 2 ∧ (q < bs.length → ∀ bs', Ag (q + 1) bs bs' → F bs' = .up q 2) ∧ ∀ bs', bs'.length = q → Ag q bs bs' → F bs' = .up q 1 ∨ F bs' = .up q 2))) : Near bs F p := by
  unfold Near; rw [e]; exact h
theorem Near.bind {α β : Type} {bs : List UInt8} {F : List UInt8 → Out α} {f : List UInt8 → α → Nat → Out β} {p : Nat} (h : Near bs F p) (hf : ∀ a q, F bs = .ok a q → q ≤ bs.length → Near bs (fun b => f b a q) q) : Near bs (fun b => (F b).bind (f b)) p := by
  cases e : F bs with
  | up q er =>
    obtain ⟨h1, h2, h3⟩ := h.up e
    refine Near.mkUp (q := q) (er := er) (by simp only [e]; rfl) ⟨h1, h2, ?_⟩
    rcases h3 with h3 | ⟨h3, h4, h5⟩
    · exact .inl h3
    · refine .inr ⟨h3, fun hl bs' ha => ?_, fun bs' hl ha => ?_⟩
      · simp only [h4 hl bs' ha]; rfl
      · rcases h5 bs' hl ha with h6 | h6
        · left; simp only [h6]; rfl
        · right; simp only [h6]; rfl
  | ok a q =>
    obtain ⟨h1, h2, h3⟩ := h.ok e
    have g := hf a q e h2
    cases e2 : f bs a q with
    | ok b r =>
      obtain ⟨g1, g2, g3⟩ := g.ok e2
      refine Near.mkOk (a := b) (q := r) (by simp only [e]; exact e2) ⟨by omega, g2, fun bs' ha => ?_⟩
      simp only [h3 bs' (ha.mono g1)]
      exact g3 bs' ha
    | up r er =>
      obtain ⟨g1, g2, g3⟩ := g.up e2
      refine Near.mkUp (q := r) (er := er) (by simp only [e]; exact e2) ⟨by omega, g2, ?_⟩
      rcases g3 with g3 | ⟨g3, g4, g5⟩
      · exact .inl g3
      · refine .inr ⟨g3, fun hl bs' ha => ?_, fun bs' hl ha => ?_⟩
        · simp only [h3 bs' (ha.mono (by omega))]
          exact g4 hl bs' ha
        · simp only [h3 bs' (ha.mono g1)]
          exact g5 bs' hl ha
theorem Near.ret {α : Type} {bs : List UInt8} (a : α) {p : Nat} (hp : p ≤ bs.length) : Near bs (fun _ => .ok a p) p := Near.mkOk rfl ⟨Nat.le_refl _, hp, fun _ _ => rfl⟩
theorem Near.bad {α : Type} {bs : List UInt8} {p : Nat} (hp : p ≤ bs.length) : Near (α := α) bs (fun _ => .up p 2) p := Near.mkUp rfl ⟨Nat.le_refl _, hp, .inr ⟨rfl, fun _ _ _ => rfl, fun _ _ _ => .inr rfl⟩⟩
theorem byteO_loc {bs : List UInt8} {lim : Int} {may : UInt8 → Int → Prop} {p : Nat} (hp : p ≤ bs.length) : Near bs (fun b => byteO b lim may p) p := by
  by_cases h0 : rest lim p = 0
  · have e : ∀ b : List UInt8, byteO b lim may p = .up p 2 := fun b => by unfold byteO; rw [if_pos h0]
    simp only [e]
    exact Near.bad hp
  · by_cases hl : p < bs.length
    · by_cases hm : may bs[p] (rest lim (p + 1))
      · have e : ∀ b, Ag (p + 1) bs b → byteO b lim may p = .ok bs[p] (p + 1) := fun b hb => by
          obtain ⟨h1, h2⟩ := hb.get (Nat.lt_succ_self p) hl
          unfold byteO
          rw [if_neg h0, dif_pos h1, h2, if_pos hm]
        exact Near.mkOk (e bs ⟨hl, rfl⟩) ⟨Nat.le_succ _, hl, e⟩
      · have e : ∀ b, Ag (p + 1) bs b → byteO b lim may p = .up p 2 := fun b hb => by
          obtain ⟨h1, h2⟩ := hb.get (Nat.lt_succ_self p) hl
          unfold byteO
          rw [if_neg h0, dif_pos h1, h2, if_neg hm]
        refine Near.mkUp (e bs ⟨hl, rfl⟩) ⟨Nat.le_refl _, hp, .inr ⟨rfl, fun _ b hb => e b hb, fun b hb _ => .inl ?_⟩⟩
        unfold byteO
        rw [if_neg h0, dif_neg (by omega)]
    · have e : byteO bs lim may p = .up p 1 := by unfold byteO; rw [if_neg h0, dif_neg hl]
      exact Near.mkUp e ⟨Nat.le_refl _, hp, .inl ⟨rfl, by omega⟩⟩
theorem numO_loc {bs : List UInt8} {lim : Int} {may : List UInt8 → UInt8 → Int → Prop} : ∀ (n : Nat) (ds : List UInt8) (p : Nat), p ≤ bs.length → Near bs (fun b => numO b lim may n ds p) p
  | 0, ds, p, hp => Near.bad hp
  | n + 1, ds, p, hp => by
    show Near bs (fun b => (byteO b lim (may ds) p).bind fun x q => if x.toNat < 128 then .ok (ds ++ [x]) q else numO b lim may n (ds ++ [x]) q) p
    refine Near.bind (F := fun b => byteO b lim (may ds) p) (byteO_loc hp) fun x q _ hq => ?_
    by_cases hx : x.toNat < 128
    · simp only [if_pos hx]
      exact Near.ret _ hq
    · simp only [if_neg hx]
      exact numO_loc n _ q hq
/-- the place alone -/
def Plc {α : Type} (o : Out α) : Out Unit := o.bind fun _ q => .ok () q
theorem Near.fin {α : Type} {bs : List UInt8} {F : List UInt8 → Out α} {p : Nat} (h : Near bs F p) : Near bs (fun b => Plc (F b)) p := Near.bind (f := fun _ _ q => .ok () q) h fun _ _ _ hq => Near.ret _ hq
end Go.Proofs.Cur
namespace Go.Proofs.Ytkfohickmdkplaa
open Go.Proofs.Leb Go.Proofs.Cur Go.Proofs.Span Go.Proofs.Utf
theorem nameL_loc {bs : List UInt8} {lim : Int} : ∀ (k : Nat) (cur : List UInt8) (p : Nat), p ≤ bs.length → Near bs (fun b => nameL b lim k cur p) p
  | 0, cur, p, hp => Near.ret () hp
  | k + 1, cur, p, hp => by
    simp only [nameL_step]
    exact Near.bind (F := fun b => byteO b lim (mayN (k + 1) cur) p) (f := fun b x q => nameL b lim k (if (need (cur ++ [x])).1 = 0 then [] else cur ++ [x]) q) (byteO_loc hp) fun x q _ hq => nameL_loc k _ q hq
theorem rawO_loc {bs : List UInt8} {lim n : Int} {p : Nat} (hi : Inv bs.length lim p) : Near bs (fun b => rawO b lim n p) p := by
  have hp := hi.place
  have hr := hi.rest
  obtain ⟨r, hrr⟩ : ∃ r : Nat, rest lim p = r := ⟨(rest lim p).toNat, by omega⟩
  by_cases h1 : max n 0 ≤ min ((bs.length : Int) - p) (rest lim p)
  · have e : rawO bs lim n p = .ok ((bs.drop p).take n.toNat) (p + n.toNat) := by unfold rawO; rw [if_pos h1]
    refine Near.mkOk e ⟨by omega, by omega, fun b hb => ?_⟩
    have hb1 := hb.1
    show rawO b lim n p = _
    unfold rawO
    rw [if_pos (by omega)]
    congr 1
    have := congrArg (List.drop p) hb.2
    rw [List.drop_take, List.drop_take, Nat.add_sub_cancel_left] at this
    exact this
  · by_cases h2 : (bs.length : Int) - p < rest lim p
    · have e : rawO bs lim n p = .up bs.length 1 := by unfold rawO; rw [if_neg h1, if_pos h2]
      exact Near.mkUp e ⟨hp, Nat.le_refl _, .inl ⟨rfl, rfl⟩⟩
    · have e : rawO bs lim n p = .up (p + (rest lim p).toNat) 2 := by unfold rawO; rw [if_neg h1, if_neg h2]
      refine Near.mkUp e ⟨by omega, by omega, .inr ⟨rfl, fun hl b hb => ?_, fun b hb _ => .inr ?_⟩⟩
      · have hb1 := hb.1
        show rawO b lim n p = _
        unfold rawO
        rw [if_neg (by omega), if_neg (by omega)]
      · show rawO b lim n p = _
        unfold rawO
        rw [if_neg (by omega), if_neg (by omega)]
theorem bind_bind {α β γ : Type} (o : Out α) (f : α → Nat → Out β) (g : β → Nat → Out γ) : (o.bind f).bind g = o.bind fun a q => (f a q).bind g := by cases o <;> rfl
theorem askO_loc {bs : List UInt8} {lim : Int} {a : AskM} {p : Nat} (hi : Inv bs.length lim p) : Near bs (fun b => Plc (askO b lim a p)) p := by
  have hp := hi.place
  unfold askO
  by_cases h0 : a.doo % 6 = 0
  · simp only [if_pos h0]
    exact Near.fin (Near.bind (F := fun b => byteO b lim a.byte p) (f := fun _ x q => .ok [x] q) (byteO_loc hp) fun _ _ _ hq => Near.ret _ hq)
  · simp only [if_neg h0]
    by_cases h1 : a.doo % 6 = 1
    · simp only [if_pos h1]
      exact Near.fin (Near.bind (F := fun b => uintO b lim a.x.may p) (f := fun _ ds q => .ok (numL (val ds) 8) q) (numO_loc _ _ _ hp) fun _ _ _ hq => Near.ret _ hq)
    · simp only [if_neg h1]
      by_cases h2 : a.doo % 6 = 2
      · simp only [if_pos h2]
        exact Near.fin (Near.bind (F := fun b => sintO b lim (fun r => hasR a.x.b1 a.x.b2 r) a.n.toNat p) (f := fun _ ds q => .ok (numL (sval ds % 18446744073709551616).toNat 8) q) (numO_loc _ _ _ hp) fun _ _ _ hq => Near.ret _ hq)
      · simp only [if_neg h2]
        by_cases h3 : a.doo % 6 = 3
        · simp only [if_pos h3]
          exact Near.fin (rawO_loc hi)
        · simp only [if_neg h3]
          have e : ∀ b, Plc (nameS b lim (lenW a.x.b1 a.x.b2).may p) = (uintO b lim (lenW a.x.b1 a.x.b2).may p).bind fun ds q => nameL b lim (val ds) [] q := fun b => by
            unfold Plc nameS
            rw [bind_bind]
            congr 1
            funext ds q
            rw [bind_bind]
            cases nameL b lim (val ds) [] q <;> rfl
          simp only [e]
          exact Near.bind (F := fun b => uintO b lim (lenW a.x.b1 a.x.b2).may p) (f := fun b ds q => nameL b lim (val ds) [] q) (numO_loc _ _ _ hp) fun _ _ _ hq => nameL_loc _ _ _ hq
theorem allO_snd {bs : List UInt8} {a : AskM} {t : List AskM} {lim : Int} {p : Nat} (h5 : a.doo % 6 ≠ 5) : (allO bs (a :: t) lim p).2 = (Plc (askO bs lim a p)).bind fun _ q => (allO bs t lim q).2 := by
  show (if a.doo % 6 = 5 then _ else _ : List (List UInt8) × Out Unit).2 = _
  rw [if_neg h5]
  cases askO bs lim a p <;> rfl
theorem allO_snd5 {bs : List UInt8} {a : AskM} {t : List AskM} {lim : Int} {p : Nat} (h5 : a.doo % 6 = 5) : (allO bs (a :: t) lim p).2 = ((allO bs t (limO a.n lim p) p).2).bind fun _ q => if rest (limO a.n lim p) q = 0 then .ok () q else .up q 2 := by
  show (if a.doo % 6 = 5 then _ else _ : List (List UInt8) × Out Unit).2 = _
  rw [if_pos h5]
  show withinO _ _ = _
  cases (allO bs t (limO a.n lim p) p).2 <;> rfl
theorem allO_loc {bs : List UInt8} : ∀ (l : List AskM) (lim : Int) (p : Nat), Inv bs.length lim p → Near bs (fun b => (allO b l lim p).2) p
  | [], lim, p, hi => Near.ret () hi.place
  | a :: t, lim, p, hi => by
    by_cases h5 : a.doo % 6 = 5
    · simp only [allO_snd5 h5]
      refine Near.bind (F := fun b => (allO b t (limO a.n lim p) p).2) (f := fun _ _ q => if rest (limO a.n lim p) q = 0 then .ok () q else .up q 2) (allO_loc t _ p (limO_inv hi)) fun _ q _ hq => ?_
      by_cases hz : rest (limO a.n lim p) q = 0
      · simp only [if_pos hz]; exact Near.ret _ hq
      · simp only [if_neg hz]; exact Near.bad hq
    · simp only [allO_snd h5]
      refine Near.bind (F := fun b => Plc (askO b lim a p)) (f := fun b _ q => (allO b t lim q).2) (askO_loc hi) fun z q hz hq => ?_
      cases e : askO bs lim a p with
      | up q' er => simp only [e] at hz; cases hz
      | ok s q' =>
        simp only [e] at hz
        cases hz
        exact allO_loc t lim _ (askO_inv hi e)
end Go.Proofs.Ytkfohickmdkplaa
