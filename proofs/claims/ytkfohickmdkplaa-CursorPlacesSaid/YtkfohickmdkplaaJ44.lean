/-
  The laws of the cursor: a fine ask's want is what Comes is handed.
-/
import Derived.Test.YtkfohickmdkplaaJ37
import Derived.Test.YtkfohickmdkplaaJ34
import Derived.Test.YtkfohickmdkplaaJ2
import Derived.Test.YtkfohickmdkplaaJ43
namespace Go.Proofs.Ytkfohickmdkplaa
open Go.RowKit Go.Proofs.Leb Go.Proofs.Own Go.Proofs.Cur Go.Proofs.Span
theorem rawO_er {bs : List UInt8} {lim n : Int} {p q er : Nat} (h : rawO bs lim n p = .up q er) : er ≠ 0 := by
  unfold rawO at h
  split at h
  · cases h
  · split at h <;> cases h <;> decide
theorem nameL_er {bs : List UInt8} {lim : Int} : ∀ (k : Nat) (cur : List UInt8) (p : Nat) {q er : Nat}, nameL bs lim k cur p = .up q er → er ≠ 0
  | 0, cur, p, q, er, h => by unfold nameL at h; cases h
  | k + 1, cur, p, q, er, h => by
    rw [nameL_step] at h
    cases hb : byteO bs lim (mayN (k + 1) cur) p with
    | up q' e' => rw [hb] at h; cases h; exact byteO_er hb
    | ok y q' => rw [hb] at h; exact nameL_er k _ q' h
theorem nameS_er {bs : List UInt8} {lim : Int} {S : Int → Nat → Prop} {p q er : Nat} (h : nameS bs lim S p = .up q er) : er ≠ 0 := by
  unfold nameS at h
  cases hb : uintO bs lim S p with
  | up q' e' => rw [hb] at h; cases h; exact numO_er hb
  | ok ds q' =>
    rw [hb] at h
    cases hc : nameL bs lim (val ds) [] q' with
    | up q2 e2 => simp only [Out.bind, hc] at h; cases h; exact nameL_er _ _ _ hc
    | ok x q2 => simp only [Out.bind, hc] at h; cases h
theorem wantOk_of {a : AskM} {w : World} {pv : Value} (hw : WfA a) (hf : FineA a) (hd : a.doo % 6 = 1) (hr : RdK w pv a.x.picks) : WantOk a.x pv w := by
  obtain ⟨k0, k3, hi, ho, hp, hs⟩ := hf.want hd
  have hk : a.x.kind = 0 ∨ a.x.kind = 1 ∨ a.x.kind = 2 ∨ a.x.kind = 3 := by omega
  refine ⟨⟨hw.xlo, hw.xhi, fun _ => hi, fun _ => ho, fun _ => hf.beh, ?_⟩, hk, hr, by omega, fun y hy => ?_, fun y hy => (hw.picks y hy).1⟩
  · have h1 := hw.i2
    have h2 := hw.o2
    have h3 := hw.b2
    unfold I64 at h1 h2 h3
    exact ⟨h1.2, h2.2, h3.2⟩
  · have := hs y hy
    unfold Span.right at this
    exact this.1
theorem RdA.tail {w : World} {B : Nat → Prop} {b o cap : Nat} {l : List AskM} (h : RdA w B (.slice (some ⟨b, o, none⟩) l.length cap) l) (i : Nat) (hi : i ≤ l.length) :
    RdA w B (.slice (some ⟨b, o + i * 14, none⟩) (l.length - i) (cap - i)) (l.drop i) := by
  obtain ⟨⟨a, c, e, h1⟩, h2⟩ := h
  cases e
  exact ⟨⟨_, _, by rw [List.length_drop], by rw [List.length_drop]; omega⟩, fun hne => RdE.tail (h2 (by intro e; subst e; simp at hne)) i hi⟩
theorem RdA.empty {w : World} {B : Nat → Prop} {b o cap : Nat} {l : List AskM} (_ : RdA w B (.slice (some ⟨b, o, none⟩) l.length cap) l) (_ : l ≠ []) (o' c' : Nat) : RdA w B (.slice (some ⟨b, o', none⟩) 0 c') [] :=
  ⟨⟨_, _, rfl, Nat.zero_le _⟩, fun hne => absurd rfl hne⟩
theorem sintO_er {bs : List UInt8} {lim : Int} {S : Int → Prop} {bits : Nat} {p q er : Nat} (h : sintO bs lim S bits p = .up q er) : er ≠ 0 := numO_er h
theorem askO_er {bs : List UInt8} {lim : Int} {a : AskM} {p q er : Nat} (h : askO bs lim a p = .up q er) : er ≠ 0 := by
  unfold askO at h
  split at h
  · cases hb : byteO bs lim a.byte p with
    | up q' e' => rw [hb] at h; cases h; exact byteO_er hb
    | ok x q' => rw [hb] at h; cases h
  · split at h
    · cases hb : uintO bs lim a.x.may p with
      | up q' e' => rw [hb] at h; cases h; exact numO_er hb
      | ok x q' => rw [hb] at h; cases h
    · split at h
      · cases hb : sintO bs lim (fun r => hasR a.x.b1 a.x.b2 r) a.n.toNat p with
        | up q' e' => rw [hb] at h; cases h; exact numO_er hb
        | ok x q' => rw [hb] at h; cases h
      · split at h
        · exact rawO_er h
        · exact nameS_er h
theorem allO_up {bs : List UInt8} {a : AskM} {t : List AskM} {lim : Int} {p q er : Nat} (h5 : a.doo % 6 ≠ 5) (h : askO bs lim a p = .up q er) : allO bs (a :: t) lim p = ([], .up q er) := by
  unfold allO
  rw [if_neg h5, h]
theorem allO_ok {bs : List UInt8} {a : AskM} {t : List AskM} {lim : Int} {p q : Nat} {s : List UInt8} (h5 : a.doo % 6 ≠ 5) (h : askO bs lim a p = .ok s q) :
    allO bs (a :: t) lim p = (s :: numL q 8 :: numL (rest lim q).toNat 8 :: (allO bs t lim q).1, (allO bs t lim q).2) := by
  show (if a.doo % 6 = 5 then _ else _) = _
  rw [if_neg h5, h]
theorem infoA : (Try.prog.info? 49).map (·.size) = some 14 := by kernel_rfl
end Go.Proofs.Ytkfohickmdkplaa
