/-
  The laws of the cursor: the document's answers to asks. UNDER WAY (arms are open).
-/
import Derived.Test.YtkfohickmdkplaaJ34
import Derived.Test.YtkfohickmdkplaaJ44
namespace Go.Proofs.Ytkfohickmdkplaa
open Go.RowKit Go.Proofs.Leb Go.Proofs.Own Go.Proofs.Cur Go.Proofs.Span
set_option maxRecDepth 100000
set_option maxHeartbeats 40000000

/-- the reader behind it all -/
def AnsR (w' : World) (R : Nat) (B : ByteArray) (lim : Int) (o : Out Unit) : Prop := match o with
  | .ok _ q => Rdr w' R B q lim 0 0
  | .up q er => er ≠ 0 ∧ ∃ p' lim', Rdr w' R B p' lim' er q
def AnsP (w : World) (R : Nat) (B : ByteArray) (lim : Int) (o : List (List UInt8) × Out Unit) (e : Ending) (w' : World) : Prop :=
  ∃ v, e = .returned v ∧ Texts w' v o.1 ∧ Upd (· = R) w w' ∧ Fresh w v ∧ AnsR w' R B lim o.2

/-- before the i-th ask -/
structure AnsI (w : World) (R : Nat) (B : ByteArray) (lim : Int) (l : List AskM) (O : List (List UInt8) × Out Unit) (i : Nat) (o : Value) (pre : List (List UInt8)) (wr : World) : Prop where
  up : Upd (· = R) w wr
  txt : Texts wr o pre
  fr : Fresh w o
  st : (∃ q, Rdr wr R B q lim 0 0 ∧ Inv B.size lim q ∧ O.1 = pre ++ (allO B.data.toList (l.drop i) lim q).1 ∧ O.2 = (allO B.data.toList (l.drop i) lim q).2) ∨
    (∃ p' er sp, er ≠ 0 ∧ Rdr wr R B p' lim er sp ∧ O = (pre, .up sp er))

theorem answers_any : ∀ (n : Nat) (l : List AskM) (v : Value) (Bk : Nat → Prop) (w : World) (R : Nat) (B : ByteArray) (lim : Int) (p : Nat), l.length < n → l.length ≤ 30 → RdA w Bk v l → (∀ k, Bk k → k ≠ R) → (∀ a ∈ l, WfA a) → (∀ a ∈ l, FineA a) →
    Rdr w R B p lim 0 0 → Inv B.size lim p → Calls Try.prog 10 #[.pointer (some ⟨R, 0, none⟩), v] w (AnsP w R B lim (allO B.data.toList l lim p)) := by
  intro n
  induction n with
  | zero => exact fun l v Bk w R B lim p h => absurd h (Nat.not_lt_zero _)
  | succ n ih =>
    intro l v Bk w R B lim p hln hl30 hr hBR hwf hfine h hi
    have IH := hid ih
    have HR := hid hr
    have HW := hid hwf
    have HF := hid hfine
    have HBR := hid hBR
    have HL := hid (size_list B)
    have hRlt := h.lt
    obtain ⟨O, hO⟩ : ∃ O, allO B.data.toList l lim p = O := ⟨_, rfl⟩
    have i0 : AnsI w R B lim l O 0 (.slice none 0 0) [] w := ⟨Upd.refl _ _, World.ownsRow_nil w 0 _ 1, (fun k h => by cases h), .inl ⟨p, h, hi, by rw [List.drop_zero, hO]; rfl, by rw [List.drop_zero, hO]⟩⟩
    have I0 := hid i0
    have HOL : Hid (O.1.length ≤ 90) := by show _ ≤ _; rw [← hO]; have := allO_len (bs := B.data.toList) l lim p; omega
    rw [hO]
    obtain ⟨⟨av, cv, rfl, hcv⟩, -⟩ := id hr
    have HCAP := hid hcv
    clear hcv ih hr hwf hfine hBR h hi hO i0
    go_enter Try.func10, Try.ntmps10
    go_wp2_with fail
    go_loopg [5, 6] l.length (fun k o c wr => ∃ (i : Nat) (pre : List (List UInt8)), k = l.length - i ∧ c = .int .i64 i ∧ i ≤ l.length ∧ AnsI w R B lim l O i o pre wr)
    case atStart => exact ⟨0, [], rfl, rfl, Nat.zero_le _, I0.out⟩
    case round =>
      obtain ⟨i, pre, rfl, rfl, hil, hinv⟩ := hrel
      have IR := hid hinv
      clear hinv I0
      by_cases hlt : i < l.length
      · rcases IR.out.st with ⟨q, hq, hiq, ho1, ho2⟩ | ⟨p', er, sp, he, hr, ho⟩
        · have c3 := hq.c3
          have HQ := hid hq
          have HIQ := hid hiq
          have HO1 := hid ho1
          have HO2 := hid ho2
          clear hq hiq ho1 ho2
          have hne : l ≠ [] := by intro e; subst e; simp at hlt
          have HNE0 := hid hne
          obtain ⟨_, _, e, hat⟩ := (HR.out.2 hne).at
          clear hne
          obtain ⟨b, o, row, rfl, hlen, ⟨pv, rfl, hpk, hpo⟩, hc⟩ := hat i hlt
          cases e
          obtain ⟨pa, pc, rfl⟩ := hpk.shape
          have HRT : Hid (∃ t, l.drop i = l[i] :: t ∧ t = l.drop (i + 1)) := ⟨_, List.drop_eq_getElem_cons hlt, rfl⟩
          have HWF := hid (HW.out l[i] (List.getElem_mem _))
          have HFA := hid (HF.out l[i] (List.getElem_mem _))
          obtain ⟨a, ha⟩ : ∃ a, l[i] = a := ⟨_, rfl⟩
          have HA := hid ha
          rw [ha] at hc hpk hpo HWF HFA HRT
          have HBb : b ≠ R := HBR.out b ((HR.out.2 HNE0.out).own b rfl)
          have HPB := hid (fun hne k hk => HBR.out k (hpo hne k hk))
          have HC : Hid (∀ W, Upd (· = R) w W → ∀ j u, (rowA a (.slice pa a.x.picks.length pc))[j]? = some u → W.cell? ⟨b, o + i * 14 + j, none⟩ = some u) := fun W hW j u hj => hW.cell (hc j u (by simpa using hj)) HBb
          have HP : Hid (RdK w (.slice pa a.x.picks.length pc) a.x.picks) := hpk
          have HC0 := hid (HC.out _ IR.out.up)
          have HZ : Hid ((wr.alloc (.cells #[.int .u8 0, .int .i64 0, .int .u8 0, .int .u8 0, .int .i64 0, .int .u64 0, .int .u64 0, .int .i64 0, .int .i64 0, .int .i64 0, .int .i64 0, .int .i64 0, .int .i64 0, .slice none 0 0] 49)).heap[wr.heap.size]? = some (.cells #[.int .u8 0, .int .i64 0, .int .u8 0, .int .u8 0, .int .i64 0, .int .u64 0, .int .u64 0, .int .i64 0, .int .i64 0, .int .i64 0, .int .i64 0, .int .i64 0, .int .i64 0, .slice none 0 0] 49)) := hp_new rfl
          obtain ⟨d, hd⟩ : ∃ d : Nat, a.doo % 6 = d := ⟨_, rfl⟩
          have ed : (a.doo : Int).tmod 6 = (d : Int) := by rw [Int.tmod_eq_emod_of_nonneg (Int.natCast_nonneg _)]; omega
          have HD := hid hd
          have hd6 : d < 6 := by omega
          clear ha hat hc hlen hpk hpo hd
          go_upto_region 5 with fail
          refine wp_region_lit ?_
          refine wpList_plain rfl fun K hK => ?_
          unfold Oper.wp
          go_simp
          refine hK _ _ ?_
          clear hK
          clear K
          refine wpList_plain rfl fun K hK => ?_
          unfold Oper.wp
          go_simp
          refine hK _ _ ?_
          clear hK
          clear K
          refine wpList_plain rfl fun K hK => ?_
          unfold Oper.wp
          go_simp
          refine hK _ _ ?_
          clear hK
          clear K
          refine wpList_load_at rfl 49 _ rfl b (o + i * 14) rfl (rowA a (.slice pa a.x.picks.length pc)) _ HC0.out Try.underlying49 rfl infoA ?_
          refine wpList_plain rfl fun K hK => ?_
          unfold Oper.wp
          go_simp
          refine hK _ _ ?_
          clear hK
          clear K
          refine wpList_store_row rfl 49 _ _ rfl wr.heap.size (rowA a (.slice pa a.x.picks.length pc)) rfl rfl 49 _ HZ.out infoA rfl (by simp [rowA, valW, Value.oneCell']) ?_
          refine wpList_nil ?_
          obtain ⟨hus, hbs⟩ := run_setRowT (cs := rowA a (.slice pa a.x.picks.length pc)) HZ.out
          have hn : New wr ((wr.alloc (.cells #[.int .u8 0, .int .i64 0, .int .u8 0, .int .u8 0, .int .i64 0, .int .u64 0, .int .u64 0, .int .i64 0, .int .i64 0, .int .i64 0, .int .i64 0, .int .i64 0, .int .i64 0, .slice none 0 0] 49)).setRow wr.heap.size (rowA a (.slice pa a.x.picks.length pc))) := Upd.trans (S := fun _ => False) ((Upd.refl _ _).alloc _) hus (fun k hk e => by omega)
          generalize (wr.alloc (.cells #[.int .u8 0, .int .i64 0, .int .u8 0, .int .u8 0, .int .i64 0, .int .u64 0, .int .u64 0, .int .i64 0, .int .i64 0, .int .i64 0, .int .i64 0, .int .i64 0, .int .i64 0, .slice none 0 0] 49)).setRow wr.heap.size (rowA a (.slice pa a.x.picks.length pc)) = w3 at *
          have HN3 := hid hn
          have HBX := hid hbs
          have H3 := hid (HQ.out.new hn)
          clear hus hn hbs
          have CELL : Hid (∀ W, New w3 W → ∀ j u, (rowA a (.slice pa a.x.picks.length pc))[j]? = some u → W.cell? ⟨wr.heap.size, j, none⟩ = some u) := fun W hW j u hj => by
            rw [cell_of_row _ wr.heap.size j _ _ (0, 0) ((hW.block _ (Array.getElem?_eq_some_iff.1 HBX.out).1 (fun h => h)).trans HBX.out)]; exact hj
          have hsz : R < wr.heap.size := Nat.lt_of_lt_of_le hRlt IR.out.up.size
          have e0 : w3.cell? ⟨wr.heap.size, 0, none⟩ = some (.int .u8 a.doo) := CELL.out _ (Upd.refl _ _) 0 _ rfl
          have U3 := hid (IR.out.up.thenNew HN3.out)
          obtain rfl | rfl | rfl | rfl | rfl | rfl : d = 0 ∨ d = 1 ∨ d = 2 ∨ d = 3 ∨ d = 4 ∨ d = 5 := by omega
          · have E2 : Hid (w3.cell? ⟨wr.heap.size, 2, none⟩ = some (.int .u8 a.lo)) := CELL.out _ (Upd.refl _ _) 2 _ rfl
            have E3 : Hid (w3.cell? ⟨wr.heap.size, 3, none⟩ = some (.int .u8 a.hi)) := CELL.out _ (Upd.refl _ _) 3 _ rfl
            have HNB : ¬ wr.heap.size = R := Nat.ne_of_gt hsz
            have HCL := hid (rNext_any H3.out HIQ.out)
            clear c3
            go_wp2_with fail
            refine HCL.out.mono ?_
            rintro e w4 ⟨hu4, hm4⟩
            have U4 := hid (U3.out.trans hu4 (fun _ _ h => h))
            have UW4 := hid ((New.upd (S := (· = R)) HN3.out).trans hu4 (fun _ _ h => h))
            have E2 := hid (hu4.cell E2.out HNB)
            have E3 := hid (hu4.cell E3.out HNB)
            obtain ⟨o, hx⟩ : ∃ o, nextO B.data.toList lim q = o := ⟨_, rfl⟩
            rw [hx] at hm4
            have HX := hid hx
            have HTX : Hid (∀ W, Upd (· = R) wr W → Texts W u5 pre) := fun W hW => IR.out.txt.upd hW (fun k hk e => by have := IR.out.fr k hk; omega)
            cases o with
            | up q' er =>
              obtain ⟨x, p', rfl, hr4⟩ := hm4
              have HAO : Hid (askO B.data.toList lim a q = .up q' er) := by
                show _ = _
                unfold askO
                rw [HD.out, if_pos rfl, byte_next, HX.out]
                rfl
              have HNE := hid (askO_er HAO.out)
              have HR4 := hid hr4
              have c3 := hr4.c3
              have hb : ((er : Int) == 0) = false := by rw [beq_eq_false_iff_ne]; have := HNE.out; omega
              have hcv := conv1 w4 x
              have U5 := hid (U4.out.thenNew ((Upd.refl _ _).alloc (.cells #[.int .u8 x.toNat] 5)))
              have UW5 := hid (UW4.out.thenNew ((Upd.refl _ _).alloc (.cells #[.int .u8 x.toNat] 5)))
              have HR5 := hid (HR4.out.new ((Upd.refl _ _).alloc (.cells #[.int .u8 x.toNat] 5)))
              have c3' := HR5.out.c3
              clear hr4 hx hu4
              unfold cb
              go_wp2_with fail
              clear hcv
              go_roundg (l.length - (i + 1))
              case measure => omega
              case rel =>
                refine ⟨i + 1, pre, rfl, by go_num, by omega, ⟨U5.out, HTX.out _ UW5.out, IR.out.fr, .inr ⟨p', er, q', HNE.out, HR5.out, ?_⟩⟩⟩
                obtain ⟨t, ht, -⟩ := HRT.out
                have h1 := HO1.out
                have h2 := HO2.out
                rw [ht, allO_up (by rw [HD.out]; decide) HAO.out] at h1 h2
                exact Prod.ext (by simpa using h1) h2
            | ok x q' =>
              obtain ⟨rfl, hr4⟩ := hm4
              obtain ⟨hq1, hql, -⟩ := nextO_ok hx
              have hiq' : Inv B.size lim q' := by
                have := byteO_inv' (may := fun _ _ => True) (q := q') (x := x) (by rw [HL.out]; exact HIQ.out) (by rw [byte_next, hx]; simp)
                rw [HL.out] at this
                exact this
              have HIQ5 := hid hiq'
              have HR4 := hid hr4
              have c1 := hr4.c1
              have c3 := hr4.c3
              have hqb := hiq'.len
              have hqp := hiq'.place
              have hqq : IntKind.i64.wrap ((q' : Int) - 1) = (q : Int) := by rw [IntWalk.i64_in _ (by omega)]; omega
              clear hr4 hx hu4 hiq' hq1 hqp hqb
              unfold cb
              by_cases hlo : a.lo ≤ x.toNat
              · have hloi : decide (a.lo ≤ x.toNat) = true := decide_eq_true (by omega)
                by_cases hhi : x.toNat ≤ a.hi
                · have hhii : decide (x.toNat ≤ a.hi) = true := decide_eq_true (by omega)
                  have HC : Hid (a.byte x (rest lim q')) := ⟨hlo, hhi⟩
                  have HAO : Hid (askO B.data.toList lim a q = .ok [x] q') := by
                    show _ = _
                    unfold askO
                    rw [HD.out, if_pos rfl, byte_next, HX.out]
                    dsimp only
                    rw [if_pos HC.out]
                    rfl
                  clear hlo hhi
                  have hnn : New w4 w4.drew := (Upd.refl _ _).drew
                  have hn : SL w4 R q' w4.drew := ⟨(Upd.refl _ _).drew, HR4.out.c1⟩
                  go_wp2_with fail
                  clear c1 c3
                  refine wp_region_noPanic ?_
                  refine wp_region_held_drew (S := (SL w4 R q')) (by kernel_rfl) (by first | exact hn | exact (Upd.refl _ _).drew | exact Upd.drew (by assumption)) (fun hn => ?_)
                  generalize w4.drew = wd at *
                  refine wpAnyH_take (i := 0) (oi := { dst := some 40, op := Op.move (Operand.tmp 0), type := 33, pos := "law.go:106", after := #[], guard := none }) (v := ?v28x1) rfl (by kernel_rfl) (by kernel_rfl) (by kernel_rfl) (fun _ _ _ h => h) (Or.inl ⟨by rfl, ?y28x1⟩) hn ?r28x1
                  case y28x1 => (intro wS hS; (try go_simp); (try with_reducible rfl))
                  try simp only [Act.put, List.setIfInBounds_toArray, List.set_cons_zero, List.set_cons_succ]
                  refine wpAnyH_take (i := 1) (oi := { dst := some 41, op := Op.move (Operand.tmp 9), type := 5, pos := "law.go:106", after := #[], guard := none }) (v := ?v28x2) rfl (by kernel_rfl) (by kernel_rfl) (by kernel_rfl) (fun _ _ _ h => h) (Or.inl ⟨by rfl, ?y28x2⟩) hn ?r28x2
                  case y28x2 => (intro wS hS; (try go_simp); (try with_reducible rfl))
                  try simp only [Act.put, List.setIfInBounds_toArray, List.set_cons_zero, List.set_cons_succ]
                  refine wpAnyH_take (i := 2) (oi := { dst := some 42, op := Op.fieldAddr 49 (Operand.tmp 7) 2, type := 0, pos := "law.go:106", after := #[], guard := none }) (v := ?v28x3) rfl (by kernel_rfl) (by kernel_rfl) (by kernel_rfl) (fun _ _ _ h => h) (Or.inl ⟨by rfl, ?y28x3⟩) hn ?r28x3
                  case y28x3 => (intro wS hS; (try go_simp); (try with_reducible rfl))
                  try simp only [Act.put, List.setIfInBounds_toArray, List.set_cons_zero, List.set_cons_succ]
                  refine wpAnyH_take (i := 3) (oi := { dst := some 43, op := Op.load 5 (Operand.tmp 42), type := 5, pos := "law.go:106", after := #[{ on := 2, ground := Ground.data }], guard := none }) (v := ?v28x4) rfl (by kernel_rfl) (by kernel_rfl) (by kernel_rfl) (fun _ _ _ h => h) (Or.inl ⟨by rfl, ?y28x4⟩) hn ?r28x4
                  case y28x4 => (intro wS hS; have c := hS.up.cell E2.out HNB; (try go_simp); (try with_reducible rfl))
                  try simp only [Act.put, List.setIfInBounds_toArray, List.set_cons_zero, List.set_cons_succ]
                  refine wpAnyH_take (i := 4) (oi := { dst := some 44, op := Op.binOp BinOp.geq 5 (Operand.tmp 41) (Operand.tmp 43) 5, type := 4, pos := "law.go:106", after := #[{ on := 1, ground := Ground.data }, { on := 3, ground := Ground.data }], guard := none }) (v := ?v28x5) rfl (by kernel_rfl) (by kernel_rfl) (by kernel_rfl) (fun _ _ _ h => h) (Or.inl ⟨by rfl, ?y28x5⟩) hn ?r28x5
                  case y28x5 => (intro wS hS; (try go_simp); (try with_reducible rfl))
                  try simp only [Act.put, List.setIfInBounds_toArray, List.set_cons_zero, List.set_cons_succ]
                  refine wpAnyH_take (i := 5) (oi := { dst := some 45, op := Op.move (Operand.tmp 44), type := 4, pos := "law.go:106", after := #[{ on := 4, ground := Ground.data }], guard := none }) (v := ?v28x6) rfl (by kernel_rfl) (by kernel_rfl) (by kernel_rfl) (fun _ _ _ h => h) (Or.inl ⟨by rfl, ?y28x6⟩) hn ?r28x6
                  case y28x6 => (intro wS hS; (try go_simp); (try with_reducible rfl))
                  try simp only [Act.put, List.setIfInBounds_toArray, List.set_cons_zero, List.set_cons_succ]
                  refine wpAnyH_take (i := 6) (oi := { dst := some 46, op := Op.move (Operand.tmp 9), type := 5, pos := "law.go:106", after := #[{ on := 5, ground := Ground.guard }], guard := some (5, true) }) (v := ?v28x7) rfl (by kernel_rfl) (by kernel_rfl) (by kernel_rfl) (fun _ _ _ h => h) (Or.inl ⟨by rfl, ?y28x7⟩) hn ?r28x7
                  case y28x7 => (intro wS hS; (try go_simp); (try with_reducible rfl))
                  try simp only [Act.put, List.setIfInBounds_toArray, List.set_cons_zero, List.set_cons_succ]
                  refine wpAnyH_take (i := 7) (oi := { dst := some 47, op := Op.fieldAddr 49 (Operand.tmp 7) 3, type := 0, pos := "law.go:106", after := #[{ on := 5, ground := Ground.guard }], guard := some (5, true) }) (v := ?v28x8) rfl (by kernel_rfl) (by kernel_rfl) (by kernel_rfl) (fun _ _ _ h => h) (Or.inl ⟨by rfl, ?y28x8⟩) hn ?r28x8
                  case y28x8 => (intro wS hS; (try go_simp); (try with_reducible rfl))
                  try simp only [Act.put, List.setIfInBounds_toArray, List.set_cons_zero, List.set_cons_succ]
                  refine wpAnyH_take (i := 8) (oi := { dst := some 48, op := Op.load 5 (Operand.tmp 47), type := 5, pos := "law.go:106", after := #[{ on := 7, ground := Ground.data }, { on := 5, ground := Ground.guard }], guard := some (5, true) }) (v := ?v28x9) rfl (by kernel_rfl) (by kernel_rfl) (by kernel_rfl) (fun _ _ _ h => h) (Or.inl ⟨by rfl, ?y28x9⟩) hn ?r28x9
                  case y28x9 => (intro wS hS; have c := hS.up.cell E3.out HNB; (try go_simp); (try with_reducible rfl))
                  try simp only [Act.put, List.setIfInBounds_toArray, List.set_cons_zero, List.set_cons_succ]
                  refine wpAnyH_take (i := 9) (oi := { dst := some 49, op := Op.binOp BinOp.leq 5 (Operand.tmp 46) (Operand.tmp 48) 5, type := 4, pos := "law.go:106", after := #[{ on := 6, ground := Ground.data }, { on := 8, ground := Ground.data }, { on := 5, ground := Ground.guard }], guard := some (5, true) }) (v := ?v28x10) rfl (by kernel_rfl) (by kernel_rfl) (by kernel_rfl) (fun _ _ _ h => h) (Or.inl ⟨by rfl, ?y28x10⟩) hn ?r28x10
                  case y28x10 => (intro wS hS; (try go_simp); (try with_reducible rfl))
                  try simp only [Act.put, List.setIfInBounds_toArray, List.set_cons_zero, List.set_cons_succ]
                  refine wpAnyH_take (i := 10) (oi := { dst := some 50, op := Op.pick (Operand.tmp 45) (Operand.tmp 49) (Operand.const (Value.bool false)), type := 4, pos := "law.go:106", after := #[{ on := 5, ground := Ground.data }, { on := 9, ground := Ground.data }], guard := none }) (v := ?v28x11) rfl (by kernel_rfl) (by kernel_rfl) (by kernel_rfl) (fun _ _ _ h => h) (Or.inl ⟨by rfl, ?y28x11⟩) hn ?r28x11
                  case y28x11 => (intro wS hS; (try go_simp); (try with_reducible rfl))
                  try simp only [Act.put, List.setIfInBounds_toArray, List.set_cons_zero, List.set_cons_succ]
                  refine wpAnyH_take (i := 11) (oi := { dst := some 51, op := Op.move (Operand.tmp 0), type := 33, pos := "law.go:106", after := #[], guard := none }) (v := ?v28x12) rfl (by kernel_rfl) (by kernel_rfl) (by kernel_rfl) (fun _ _ _ h => h) (Or.inl ⟨by rfl, ?y28x12⟩) hn ?r28x12
                  case y28x12 => (intro wS hS; (try go_simp); (try with_reducible rfl))
                  try simp only [Act.put, List.setIfInBounds_toArray, List.set_cons_zero, List.set_cons_succ]
                  refine wpAnyH_take (i := 12) (oi := { dst := some 52, op := Op.nilCheck (Operand.tmp 51), type := 0, pos := "law.go:106", after := #[{ on := 11, ground := Ground.data }], guard := none }) (v := ?v28x13) rfl (by kernel_rfl) (by kernel_rfl) (by kernel_rfl) (fun _ _ _ h => h) (Or.inl ⟨by rfl, ?y28x13⟩) hn ?r28x13
                  case y28x13 => (intro wS hS; (try go_simp); (try with_reducible rfl))
                  try simp only [Act.put, List.setIfInBounds_toArray, List.set_cons_zero, List.set_cons_succ]
                  refine wpAnyH_take (i := 13) (oi := { dst := some 53, op := Op.fieldAddr 37 (Operand.tmp 52) 1, type := 0, pos := "law.go:106", after := #[{ on := 12, ground := Ground.data }], guard := none }) (v := ?v28x14) rfl (by kernel_rfl) (by kernel_rfl) (by kernel_rfl) (fun _ _ _ h => h) (Or.inl ⟨by rfl, ?y28x14⟩) hn ?r28x14
                  case y28x14 => (intro wS hS; (try go_simp); (try with_reducible rfl))
                  try simp only [Act.put, List.setIfInBounds_toArray, List.set_cons_zero, List.set_cons_succ]
                  refine wpAnyH_take (i := 14) (oi := { dst := some 54, op := Op.load 3 (Operand.tmp 53), type := 3, pos := "law.go:106", after := #[{ on := 13, ground := Ground.data }], guard := none }) (v := ?v28x15) rfl (by kernel_rfl) (by kernel_rfl) (by kernel_rfl) (fun _ _ _ h => h) (Or.inl ⟨by rfl, ?y28x15⟩) hn ?r28x15
                  case y28x15 => (intro wS hS; have c := hS.c1; (try go_simp); (try with_reducible rfl))
                  try simp only [Act.put, List.setIfInBounds_toArray, List.set_cons_zero, List.set_cons_succ]
                  refine wpAnyH_take (i := 15) (oi := { dst := some 55, op := Op.binOp BinOp.sub 3 (Operand.tmp 54) (Operand.const (Value.int IntKind.i64 1)) 3, type := 3, pos := "law.go:106", after := #[{ on := 14, ground := Ground.data }], guard := none }) (v := ?v28x16) rfl (by kernel_rfl) (by kernel_rfl) (by kernel_rfl) (fun _ _ _ h => h) (Or.inl ⟨by rfl, ?y28x16⟩) hn ?r28x16
                  case y28x16 => (intro wS hS; (try go_simp); (try with_reducible rfl))
                  try simp only [Act.put, List.setIfInBounds_toArray, List.set_cons_zero, List.set_cons_succ]
                  refine wpAnyH_ready (rs := [16]) (by kernel_rfl) (by simp) ?_
                  refine AllReadyH.cons (o := { dst := some 56, op := Op.call { callee := Callee.value (Operand.func 31), args := #[Operand.tmp 40, Operand.tmp 50, Operand.tmp 55], argTypes := #[33, 4, 3] }, type := 0, pos := "law.go:106", after := #[{ on := 0, ground := Ground.data }, { on := 10, ground := Ground.data }, { on := 15, ground := Ground.data }, { on := 5, ground := Ground.chain }], guard := none }) rfl (fun K hK => ?_) AllReadyH.nil
                  go_simp
                  refine (rNeed_any' (HR4.out.new hnn) true q).mono ?_
                  rintro e w5 ⟨rfl, hr5, hu5⟩
                  have HR5 := hid hr5
                  go_wp2_with fail
                  have hn := hn.upd hu5 hr5.c1
                  clear hr5
                  refine hK.out _ _ (by first | exact hn | exact Upd.alloc hn _) (fun hn => ?_)
                  clear hK K
                  try simp only [Act.put, List.setIfInBounds_toArray, List.set_cons_zero, List.set_cons_succ]
                  refine wpAnyH_done (by kernel_rfl) ?_ _
                  refine NoPanic.normal ?_
                  have hu5 := hn.up
                  have c1 := HR5.out.c1
                  have c3 := HR5.out.c3
                  have hcv := conv1 w5 x
                  clear hn hnn
                  have U5 := hid (U4.out.trans hu5 (fun _ _ h => h))
                  have UW5 := hid (UW4.out.trans hu5 (fun _ _ h => h))
                  have hiq' := HIQ5.out
                  have HR6 := hid (HR5.out.new ((Upd.refl _ _).alloc (.cells #[.int .u8 x.toNat] 5)))
                  have c1' := HR6.out.c1
                  have c3' := HR6.out.c3
                  clear hu5
                  have hql := hiq'.place
                  have hqb := hiq'.len
                  have hrr := hiq'.rest
                  obtain ⟨rn, hrn⟩ : ∃ rn : Nat, rest lim q' = rn := ⟨(rest lim q').toNat, by omega⟩
                  have HRN : Hid ((rest lim q').toNat = rn) := by show _ = _; omega
                  rw [hrn] at hrr
                  have hrb : rn ≤ 1099511627776 := by omega
                  have HRE := hid hrn
                  clear hiq' hrr hrn
                  go_wp2_with fail
                  have HNB := hid (fun n h W => number_any n h W)
                  refine (HNB.out q' (by omega) _).mono ?_
                  rintro e w6 ⟨rfl, hn6⟩
                  have HN6 := hid (New.trans (a := w5) ((Upd.refl _ _).alloc (.cells #[.int .u8 x.toNat] 5)) hn6)
                  clear hn6
                  unfold numV
                  have HRS : Hid (∀ W, New w5 W → Calls Try.prog 38 #[.pointer (some ⟨R, 0, none⟩)] W fun e w' => e = .returned (.int .i64 rn) ∧ New W w') := fun W hW => by
                    have := rRest_any (HR5.out.new hW) HIQ5.out
                    rw [HRE.out] at this
                    exact this
                  go_wp2_with fail
                  refine (HRS.out _ HN6.out).mono ?_
                  rintro e w7 ⟨rfl, hn7⟩
                  have HN7 := hid (New.trans HN6.out hn7)
                  clear hn7
                  go_wp2_with fail
                  refine (HNB.out rn (by omega) _).mono ?_
                  rintro e w8 ⟨rfl, hn8⟩
                  have HN8 := hid (New.trans HN7.out hn8)
                  clear hn8
                  unfold numV
                  have HPL : Hid (pre.length ≤ 100) := by
                    show _ ≤ _
                    have h1 := congrArg List.length HO1.out
                    have h2 := HOL.out
                    rw [List.length_append] at h1
                    omega
                  have hn9 : New w5 (w8.alloc (.cells ([[x], numL q' 8, numL rn 8].map strV).toArray 9)) := HN8.out.alloc _
                  clear hcv
                  have UW9 := hid (UW5.out.thenNew hn9)
                  have UA9 := hid (U5.out.thenNew hn9)
                  have HR9 := hid (HR5.out.new hn9)
                  clear hn9
                  go_wp2_with (at_builtin; refine hold ?_)
                  refine appT (.tmp 115) (.tmp 127) (ds := pre) (bs := [[x], numL q' 8, numL rn 8]) (HTX.out _ UW9.out) (RdT.lit w8 _ 9) (by have := HPL.out; simp; omega) rfl rfl rfl rfl ?_
                  intro v8 w9 htx ha
                  have HTXB := hid htx
                  have UB := hid (UA9.out.trans ha.upd (fun k hk hh => by have := IR.out.fr k hh; omega))
                  have HRB := hid (HR9.out.upd ha.upd (fun hh => by have := IR.out.fr R hh; omega))
                  have HFB := hid (IR.out.fr.adds UA9.out.size ha)
                  clear htx ha
                  go_wp2_with fail
                  go_roundg (l.length - (i + 1))
                  case measure => omega
                  case rel =>
                    obtain ⟨t, ht, ht2⟩ := HRT.out
                    have h1 := HO1.out
                    have h2 := HO2.out
                    rw [ht, allO_ok (by rw [HD.out]; decide) HAO.out, ht2] at h1 h2
                    refine ⟨i + 1, pre ++ [[x], numL q' 8, numL rn 8], rfl, by go_num, by omega, ⟨UB.out, HTXB.out, HFB.out, .inl ⟨q', HRB.out, HIQ5.out, ?_, h2⟩⟩⟩
                    rw [h1, HRN.out]
                    simp
                · have hhii : decide (x.toNat ≤ a.hi) = false := decide_eq_false (by omega)
                  have HC : Hid (¬ a.byte x (rest lim q')) := fun h => hhi h.2
                  have HAO : Hid (askO B.data.toList lim a q = .up q 2) := by
                    show _ = _
                    unfold askO
                    rw [HD.out, if_pos rfl, byte_next, HX.out]
                    dsimp only
                    rw [if_neg HC.out]
                    rfl
                  have hnn : New w4 w4.drew := (Upd.refl _ _).drew
                  have hn : SL w4 R q' w4.drew := ⟨(Upd.refl _ _).drew, HR4.out.c1⟩
                  go_wp2_with fail
                  clear c1 c3
                  refine wp_region_noPanic ?_
                  refine wp_region_held_drew (S := (SL w4 R q')) (by kernel_rfl) (by first | exact hn | exact (Upd.refl _ _).drew | exact Upd.drew (by assumption)) (fun hn => ?_)
                  generalize w4.drew = wd at *
                  refine wpAnyH_take (i := 0) (oi := { dst := some 40, op := Op.move (Operand.tmp 0), type := 33, pos := "law.go:106", after := #[], guard := none }) (v := ?v29x1) rfl (by kernel_rfl) (by kernel_rfl) (by kernel_rfl) (fun _ _ _ h => h) (Or.inl ⟨by rfl, ?y29x1⟩) hn ?r29x1
                  case y29x1 => (intro wS hS; (try go_simp); (try with_reducible rfl))
                  try simp only [Act.put, List.setIfInBounds_toArray, List.set_cons_zero, List.set_cons_succ]
                  refine wpAnyH_take (i := 1) (oi := { dst := some 41, op := Op.move (Operand.tmp 9), type := 5, pos := "law.go:106", after := #[], guard := none }) (v := ?v29x2) rfl (by kernel_rfl) (by kernel_rfl) (by kernel_rfl) (fun _ _ _ h => h) (Or.inl ⟨by rfl, ?y29x2⟩) hn ?r29x2
                  case y29x2 => (intro wS hS; (try go_simp); (try with_reducible rfl))
                  try simp only [Act.put, List.setIfInBounds_toArray, List.set_cons_zero, List.set_cons_succ]
                  refine wpAnyH_take (i := 2) (oi := { dst := some 42, op := Op.fieldAddr 49 (Operand.tmp 7) 2, type := 0, pos := "law.go:106", after := #[], guard := none }) (v := ?v29x3) rfl (by kernel_rfl) (by kernel_rfl) (by kernel_rfl) (fun _ _ _ h => h) (Or.inl ⟨by rfl, ?y29x3⟩) hn ?r29x3
                  case y29x3 => (intro wS hS; (try go_simp); (try with_reducible rfl))
                  try simp only [Act.put, List.setIfInBounds_toArray, List.set_cons_zero, List.set_cons_succ]
                  refine wpAnyH_take (i := 3) (oi := { dst := some 43, op := Op.load 5 (Operand.tmp 42), type := 5, pos := "law.go:106", after := #[{ on := 2, ground := Ground.data }], guard := none }) (v := ?v29x4) rfl (by kernel_rfl) (by kernel_rfl) (by kernel_rfl) (fun _ _ _ h => h) (Or.inl ⟨by rfl, ?y29x4⟩) hn ?r29x4
                  case y29x4 => (intro wS hS; have c := hS.up.cell E2.out HNB; (try go_simp); (try with_reducible rfl))
                  try simp only [Act.put, List.setIfInBounds_toArray, List.set_cons_zero, List.set_cons_succ]
                  refine wpAnyH_take (i := 4) (oi := { dst := some 44, op := Op.binOp BinOp.geq 5 (Operand.tmp 41) (Operand.tmp 43) 5, type := 4, pos := "law.go:106", after := #[{ on := 1, ground := Ground.data }, { on := 3, ground := Ground.data }], guard := none }) (v := ?v29x5) rfl (by kernel_rfl) (by kernel_rfl) (by kernel_rfl) (fun _ _ _ h => h) (Or.inl ⟨by rfl, ?y29x5⟩) hn ?r29x5
                  case y29x5 => (intro wS hS; (try go_simp); (try with_reducible rfl))
                  try simp only [Act.put, List.setIfInBounds_toArray, List.set_cons_zero, List.set_cons_succ]
                  refine wpAnyH_take (i := 5) (oi := { dst := some 45, op := Op.move (Operand.tmp 44), type := 4, pos := "law.go:106", after := #[{ on := 4, ground := Ground.data }], guard := none }) (v := ?v29x6) rfl (by kernel_rfl) (by kernel_rfl) (by kernel_rfl) (fun _ _ _ h => h) (Or.inl ⟨by rfl, ?y29x6⟩) hn ?r29x6
                  case y29x6 => (intro wS hS; (try go_simp); (try with_reducible rfl))
                  try simp only [Act.put, List.setIfInBounds_toArray, List.set_cons_zero, List.set_cons_succ]
                  refine wpAnyH_take (i := 6) (oi := { dst := some 46, op := Op.move (Operand.tmp 9), type := 5, pos := "law.go:106", after := #[{ on := 5, ground := Ground.guard }], guard := some (5, true) }) (v := ?v29x7) rfl (by kernel_rfl) (by kernel_rfl) (by kernel_rfl) (fun _ _ _ h => h) (Or.inl ⟨by rfl, ?y29x7⟩) hn ?r29x7
                  case y29x7 => (intro wS hS; (try go_simp); (try with_reducible rfl))
                  try simp only [Act.put, List.setIfInBounds_toArray, List.set_cons_zero, List.set_cons_succ]
                  refine wpAnyH_take (i := 7) (oi := { dst := some 47, op := Op.fieldAddr 49 (Operand.tmp 7) 3, type := 0, pos := "law.go:106", after := #[{ on := 5, ground := Ground.guard }], guard := some (5, true) }) (v := ?v29x8) rfl (by kernel_rfl) (by kernel_rfl) (by kernel_rfl) (fun _ _ _ h => h) (Or.inl ⟨by rfl, ?y29x8⟩) hn ?r29x8
                  case y29x8 => (intro wS hS; (try go_simp); (try with_reducible rfl))
                  try simp only [Act.put, List.setIfInBounds_toArray, List.set_cons_zero, List.set_cons_succ]
                  refine wpAnyH_take (i := 8) (oi := { dst := some 48, op := Op.load 5 (Operand.tmp 47), type := 5, pos := "law.go:106", after := #[{ on := 7, ground := Ground.data }, { on := 5, ground := Ground.guard }], guard := some (5, true) }) (v := ?v29x9) rfl (by kernel_rfl) (by kernel_rfl) (by kernel_rfl) (fun _ _ _ h => h) (Or.inl ⟨by rfl, ?y29x9⟩) hn ?r29x9
                  case y29x9 => (intro wS hS; have c := hS.up.cell E3.out HNB; (try go_simp); (try with_reducible rfl))
                  try simp only [Act.put, List.setIfInBounds_toArray, List.set_cons_zero, List.set_cons_succ]
                  refine wpAnyH_take (i := 9) (oi := { dst := some 49, op := Op.binOp BinOp.leq 5 (Operand.tmp 46) (Operand.tmp 48) 5, type := 4, pos := "law.go:106", after := #[{ on := 6, ground := Ground.data }, { on := 8, ground := Ground.data }, { on := 5, ground := Ground.guard }], guard := some (5, true) }) (v := ?v29x10) rfl (by kernel_rfl) (by kernel_rfl) (by kernel_rfl) (fun _ _ _ h => h) (Or.inl ⟨by rfl, ?y29x10⟩) hn ?r29x10
                  case y29x10 => (intro wS hS; (try go_simp); (try with_reducible rfl))
                  try simp only [Act.put, List.setIfInBounds_toArray, List.set_cons_zero, List.set_cons_succ]
                  refine wpAnyH_take (i := 10) (oi := { dst := some 50, op := Op.pick (Operand.tmp 45) (Operand.tmp 49) (Operand.const (Value.bool false)), type := 4, pos := "law.go:106", after := #[{ on := 5, ground := Ground.data }, { on := 9, ground := Ground.data }], guard := none }) (v := ?v29x11) rfl (by kernel_rfl) (by kernel_rfl) (by kernel_rfl) (fun _ _ _ h => h) (Or.inl ⟨by rfl, ?y29x11⟩) hn ?r29x11
                  case y29x11 => (intro wS hS; (try go_simp); (try with_reducible rfl))
                  try simp only [Act.put, List.setIfInBounds_toArray, List.set_cons_zero, List.set_cons_succ]
                  refine wpAnyH_take (i := 11) (oi := { dst := some 51, op := Op.move (Operand.tmp 0), type := 33, pos := "law.go:106", after := #[], guard := none }) (v := ?v29x12) rfl (by kernel_rfl) (by kernel_rfl) (by kernel_rfl) (fun _ _ _ h => h) (Or.inl ⟨by rfl, ?y29x12⟩) hn ?r29x12
                  case y29x12 => (intro wS hS; (try go_simp); (try with_reducible rfl))
                  try simp only [Act.put, List.setIfInBounds_toArray, List.set_cons_zero, List.set_cons_succ]
                  refine wpAnyH_take (i := 12) (oi := { dst := some 52, op := Op.nilCheck (Operand.tmp 51), type := 0, pos := "law.go:106", after := #[{ on := 11, ground := Ground.data }], guard := none }) (v := ?v29x13) rfl (by kernel_rfl) (by kernel_rfl) (by kernel_rfl) (fun _ _ _ h => h) (Or.inl ⟨by rfl, ?y29x13⟩) hn ?r29x13
                  case y29x13 => (intro wS hS; (try go_simp); (try with_reducible rfl))
                  try simp only [Act.put, List.setIfInBounds_toArray, List.set_cons_zero, List.set_cons_succ]
                  refine wpAnyH_take (i := 13) (oi := { dst := some 53, op := Op.fieldAddr 37 (Operand.tmp 52) 1, type := 0, pos := "law.go:106", after := #[{ on := 12, ground := Ground.data }], guard := none }) (v := ?v29x14) rfl (by kernel_rfl) (by kernel_rfl) (by kernel_rfl) (fun _ _ _ h => h) (Or.inl ⟨by rfl, ?y29x14⟩) hn ?r29x14
                  case y29x14 => (intro wS hS; (try go_simp); (try with_reducible rfl))
                  try simp only [Act.put, List.setIfInBounds_toArray, List.set_cons_zero, List.set_cons_succ]
                  refine wpAnyH_take (i := 14) (oi := { dst := some 54, op := Op.load 3 (Operand.tmp 53), type := 3, pos := "law.go:106", after := #[{ on := 13, ground := Ground.data }], guard := none }) (v := ?v29x15) rfl (by kernel_rfl) (by kernel_rfl) (by kernel_rfl) (fun _ _ _ h => h) (Or.inl ⟨by rfl, ?y29x15⟩) hn ?r29x15
                  case y29x15 => (intro wS hS; have c := hS.c1; (try go_simp); (try with_reducible rfl))
                  try simp only [Act.put, List.setIfInBounds_toArray, List.set_cons_zero, List.set_cons_succ]
                  refine wpAnyH_take (i := 15) (oi := { dst := some 55, op := Op.binOp BinOp.sub 3 (Operand.tmp 54) (Operand.const (Value.int IntKind.i64 1)) 3, type := 3, pos := "law.go:106", after := #[{ on := 14, ground := Ground.data }], guard := none }) (v := ?v29x16) rfl (by kernel_rfl) (by kernel_rfl) (by kernel_rfl) (fun _ _ _ h => h) (Or.inl ⟨by rfl, ?y29x16⟩) hn ?r29x16
                  case y29x16 => (intro wS hS; (try go_simp); (try with_reducible rfl))
                  try simp only [Act.put, List.setIfInBounds_toArray, List.set_cons_zero, List.set_cons_succ]
                  refine wpAnyH_ready (rs := [16]) (by kernel_rfl) (by simp) ?_
                  refine AllReadyH.cons (o := { dst := some 56, op := Op.call { callee := Callee.value (Operand.func 31), args := #[Operand.tmp 40, Operand.tmp 50, Operand.tmp 55], argTypes := #[33, 4, 3] }, type := 0, pos := "law.go:106", after := #[{ on := 0, ground := Ground.data }, { on := 10, ground := Ground.data }, { on := 15, ground := Ground.data }, { on := 5, ground := Ground.chain }], guard := none }) rfl (fun K hK => ?_) AllReadyH.nil
                  go_simp
                  refine (rNeed_any' (HR4.out.new hnn) false q).mono ?_
                  rintro e w5 ⟨rfl, hr5, hu5⟩
                  have HR5 := hid hr5
                  go_wp2_with fail
                  have hn := hn.upd hu5 hr5.c1
                  clear hr5
                  refine hK.out _ _ (by first | exact hn | exact Upd.alloc hn _) (fun hn => ?_)
                  clear hK K
                  try simp only [Act.put, List.setIfInBounds_toArray, List.set_cons_zero, List.set_cons_succ]
                  refine wpAnyH_done (by kernel_rfl) ?_ _
                  refine NoPanic.normal ?_
                  have hu5 := hn.up
                  have c1 := HR5.out.c1
                  have c3 := HR5.out.c3
                  have hcv := conv1 w5 x
                  clear hn hnn
                  have U5 := hid ((U4.out.trans hu5 (fun _ _ h => h)).thenNew ((Upd.refl _ _).alloc (.cells #[.int .u8 x.toNat] 5)))
                  have UW5 := hid ((UW4.out.trans hu5 (fun _ _ h => h)).thenNew ((Upd.refl _ _).alloc (.cells #[.int .u8 x.toNat] 5)))
                  have HR6 := hid (HR5.out.new ((Upd.refl _ _).alloc (.cells #[.int .u8 x.toNat] 5)))
                  have c3' := HR6.out.c3
                  clear hu5
                  go_wp2_with fail
                  clear hcv
                  go_roundg (l.length - (i + 1))
                  case measure => omega
                  case rel =>
                    refine ⟨i + 1, pre, rfl, by go_num, by omega, ⟨U5.out, HTX.out _ UW5.out, IR.out.fr, .inr ⟨q', 2, q, (by decide), HR6.out, ?_⟩⟩⟩
                    obtain ⟨t, ht, -⟩ := HRT.out
                    have h1 := HO1.out
                    have h2 := HO2.out
                    rw [ht, allO_up (by rw [HD.out]; decide) HAO.out] at h1 h2
                    exact Prod.ext (by simpa using h1) h2
              · have hloi : decide (a.lo ≤ x.toNat) = false := decide_eq_false (by omega)
                have HC : Hid (¬ a.byte x (rest lim q')) := fun h => hlo h.1
                have HAO : Hid (askO B.data.toList lim a q = .up q 2) := by
                  show _ = _
                  unfold askO
                  rw [HD.out, if_pos rfl, byte_next, HX.out]
                  dsimp only
                  rw [if_neg HC.out]
                  rfl
                have hnn : New w4 w4.drew := (Upd.refl _ _).drew
                have hn : SL w4 R q' w4.drew := ⟨(Upd.refl _ _).drew, HR4.out.c1⟩
                go_wp2_with fail
                clear c1 c3
                refine wp_region_noPanic ?_
                refine wp_region_held_drew (S := (SL w4 R q')) (by kernel_rfl) (by first | exact hn | exact (Upd.refl _ _).drew | exact Upd.drew (by assumption)) (fun hn => ?_)
                generalize w4.drew = wd at *
                refine wpAnyH_take (i := 0) (oi := { dst := some 40, op := Op.move (Operand.tmp 0), type := 33, pos := "law.go:106", after := #[], guard := none }) (v := ?v30x1) rfl (by kernel_rfl) (by kernel_rfl) (by kernel_rfl) (fun _ _ _ h => h) (Or.inl ⟨by rfl, ?y30x1⟩) hn ?r30x1
                case y30x1 => (intro wS hS; (try go_simp); (try with_reducible rfl))
                try simp only [Act.put, List.setIfInBounds_toArray, List.set_cons_zero, List.set_cons_succ]
                refine wpAnyH_take (i := 1) (oi := { dst := some 41, op := Op.move (Operand.tmp 9), type := 5, pos := "law.go:106", after := #[], guard := none }) (v := ?v30x2) rfl (by kernel_rfl) (by kernel_rfl) (by kernel_rfl) (fun _ _ _ h => h) (Or.inl ⟨by rfl, ?y30x2⟩) hn ?r30x2
                case y30x2 => (intro wS hS; (try go_simp); (try with_reducible rfl))
                try simp only [Act.put, List.setIfInBounds_toArray, List.set_cons_zero, List.set_cons_succ]
                refine wpAnyH_take (i := 2) (oi := { dst := some 42, op := Op.fieldAddr 49 (Operand.tmp 7) 2, type := 0, pos := "law.go:106", after := #[], guard := none }) (v := ?v30x3) rfl (by kernel_rfl) (by kernel_rfl) (by kernel_rfl) (fun _ _ _ h => h) (Or.inl ⟨by rfl, ?y30x3⟩) hn ?r30x3
                case y30x3 => (intro wS hS; (try go_simp); (try with_reducible rfl))
                try simp only [Act.put, List.setIfInBounds_toArray, List.set_cons_zero, List.set_cons_succ]
                refine wpAnyH_take (i := 3) (oi := { dst := some 43, op := Op.load 5 (Operand.tmp 42), type := 5, pos := "law.go:106", after := #[{ on := 2, ground := Ground.data }], guard := none }) (v := ?v30x4) rfl (by kernel_rfl) (by kernel_rfl) (by kernel_rfl) (fun _ _ _ h => h) (Or.inl ⟨by rfl, ?y30x4⟩) hn ?r30x4
                case y30x4 => (intro wS hS; have c := hS.up.cell E2.out HNB; (try go_simp); (try with_reducible rfl))
                try simp only [Act.put, List.setIfInBounds_toArray, List.set_cons_zero, List.set_cons_succ]
                refine wpAnyH_take (i := 4) (oi := { dst := some 44, op := Op.binOp BinOp.geq 5 (Operand.tmp 41) (Operand.tmp 43) 5, type := 4, pos := "law.go:106", after := #[{ on := 1, ground := Ground.data }, { on := 3, ground := Ground.data }], guard := none }) (v := ?v30x5) rfl (by kernel_rfl) (by kernel_rfl) (by kernel_rfl) (fun _ _ _ h => h) (Or.inl ⟨by rfl, ?y30x5⟩) hn ?r30x5
                case y30x5 => (intro wS hS; (try go_simp); (try with_reducible rfl))
                try simp only [Act.put, List.setIfInBounds_toArray, List.set_cons_zero, List.set_cons_succ]
                refine wpAnyH_take (i := 5) (oi := { dst := some 45, op := Op.move (Operand.tmp 44), type := 4, pos := "law.go:106", after := #[{ on := 4, ground := Ground.data }], guard := none }) (v := ?v30x6) rfl (by kernel_rfl) (by kernel_rfl) (by kernel_rfl) (fun _ _ _ h => h) (Or.inl ⟨by rfl, ?y30x6⟩) hn ?r30x6
                case y30x6 => (intro wS hS; (try go_simp); (try with_reducible rfl))
                try simp only [Act.put, List.setIfInBounds_toArray, List.set_cons_zero, List.set_cons_succ]
                refine wpAnyH_take (i := 6) (oi := { dst := some 46, op := Op.move (Operand.tmp 9), type := 5, pos := "law.go:106", after := #[{ on := 5, ground := Ground.guard }], guard := some (5, true) }) (v := undef) rfl (by kernel_rfl) (by kernel_rfl) (by kernel_rfl) (fun _ _ _ h => h) (Or.inr ⟨by rfl, rfl⟩) hn ?_
                try simp only [Act.put, List.setIfInBounds_toArray, List.set_cons_zero, List.set_cons_succ]
                refine wpAnyH_take (i := 7) (oi := { dst := some 47, op := Op.fieldAddr 49 (Operand.tmp 7) 3, type := 0, pos := "law.go:106", after := #[{ on := 5, ground := Ground.guard }], guard := some (5, true) }) (v := undef) rfl (by kernel_rfl) (by kernel_rfl) (by kernel_rfl) (fun _ _ _ h => h) (Or.inr ⟨by rfl, rfl⟩) hn ?_
                try simp only [Act.put, List.setIfInBounds_toArray, List.set_cons_zero, List.set_cons_succ]
                refine wpAnyH_take (i := 8) (oi := { dst := some 48, op := Op.load 5 (Operand.tmp 47), type := 5, pos := "law.go:106", after := #[{ on := 7, ground := Ground.data }, { on := 5, ground := Ground.guard }], guard := some (5, true) }) (v := undef) rfl (by kernel_rfl) (by kernel_rfl) (by kernel_rfl) (fun _ _ _ h => h) (Or.inr ⟨by rfl, rfl⟩) hn ?_
                try simp only [Act.put, List.setIfInBounds_toArray, List.set_cons_zero, List.set_cons_succ]
                refine wpAnyH_take (i := 9) (oi := { dst := some 49, op := Op.binOp BinOp.leq 5 (Operand.tmp 46) (Operand.tmp 48) 5, type := 4, pos := "law.go:106", after := #[{ on := 6, ground := Ground.data }, { on := 8, ground := Ground.data }, { on := 5, ground := Ground.guard }], guard := some (5, true) }) (v := undef) rfl (by kernel_rfl) (by kernel_rfl) (by kernel_rfl) (fun _ _ _ h => h) (Or.inr ⟨by rfl, rfl⟩) hn ?_
                try simp only [Act.put, List.setIfInBounds_toArray, List.set_cons_zero, List.set_cons_succ]
                refine wpAnyH_take (i := 10) (oi := { dst := some 50, op := Op.pick (Operand.tmp 45) (Operand.tmp 49) (Operand.const (Value.bool false)), type := 4, pos := "law.go:106", after := #[{ on := 5, ground := Ground.data }, { on := 9, ground := Ground.data }], guard := none }) (v := ?v30x11) rfl (by kernel_rfl) (by kernel_rfl) (by kernel_rfl) (fun _ _ _ h => h) (Or.inl ⟨by rfl, ?y30x11⟩) hn ?r30x11
                case y30x11 => (intro wS hS; (try go_simp); (try with_reducible rfl))
                try simp only [Act.put, List.setIfInBounds_toArray, List.set_cons_zero, List.set_cons_succ]
                refine wpAnyH_take (i := 11) (oi := { dst := some 51, op := Op.move (Operand.tmp 0), type := 33, pos := "law.go:106", after := #[], guard := none }) (v := ?v30x12) rfl (by kernel_rfl) (by kernel_rfl) (by kernel_rfl) (fun _ _ _ h => h) (Or.inl ⟨by rfl, ?y30x12⟩) hn ?r30x12
                case y30x12 => (intro wS hS; (try go_simp); (try with_reducible rfl))
                try simp only [Act.put, List.setIfInBounds_toArray, List.set_cons_zero, List.set_cons_succ]
                refine wpAnyH_take (i := 12) (oi := { dst := some 52, op := Op.nilCheck (Operand.tmp 51), type := 0, pos := "law.go:106", after := #[{ on := 11, ground := Ground.data }], guard := none }) (v := ?v30x13) rfl (by kernel_rfl) (by kernel_rfl) (by kernel_rfl) (fun _ _ _ h => h) (Or.inl ⟨by rfl, ?y30x13⟩) hn ?r30x13
                case y30x13 => (intro wS hS; (try go_simp); (try with_reducible rfl))
                try simp only [Act.put, List.setIfInBounds_toArray, List.set_cons_zero, List.set_cons_succ]
                refine wpAnyH_take (i := 13) (oi := { dst := some 53, op := Op.fieldAddr 37 (Operand.tmp 52) 1, type := 0, pos := "law.go:106", after := #[{ on := 12, ground := Ground.data }], guard := none }) (v := ?v30x14) rfl (by kernel_rfl) (by kernel_rfl) (by kernel_rfl) (fun _ _ _ h => h) (Or.inl ⟨by rfl, ?y30x14⟩) hn ?r30x14
                case y30x14 => (intro wS hS; (try go_simp); (try with_reducible rfl))
                try simp only [Act.put, List.setIfInBounds_toArray, List.set_cons_zero, List.set_cons_succ]
                refine wpAnyH_take (i := 14) (oi := { dst := some 54, op := Op.load 3 (Operand.tmp 53), type := 3, pos := "law.go:106", after := #[{ on := 13, ground := Ground.data }], guard := none }) (v := ?v30x15) rfl (by kernel_rfl) (by kernel_rfl) (by kernel_rfl) (fun _ _ _ h => h) (Or.inl ⟨by rfl, ?y30x15⟩) hn ?r30x15
                case y30x15 => (intro wS hS; have c := hS.c1; (try go_simp); (try with_reducible rfl))
                try simp only [Act.put, List.setIfInBounds_toArray, List.set_cons_zero, List.set_cons_succ]
                refine wpAnyH_take (i := 15) (oi := { dst := some 55, op := Op.binOp BinOp.sub 3 (Operand.tmp 54) (Operand.const (Value.int IntKind.i64 1)) 3, type := 3, pos := "law.go:106", after := #[{ on := 14, ground := Ground.data }], guard := none }) (v := ?v30x16) rfl (by kernel_rfl) (by kernel_rfl) (by kernel_rfl) (fun _ _ _ h => h) (Or.inl ⟨by rfl, ?y30x16⟩) hn ?r30x16
                case y30x16 => (intro wS hS; (try go_simp); (try with_reducible rfl))
                try simp only [Act.put, List.setIfInBounds_toArray, List.set_cons_zero, List.set_cons_succ]
                refine wpAnyH_ready (rs := [16]) (by kernel_rfl) (by simp) ?_
                refine AllReadyH.cons (o := { dst := some 56, op := Op.call { callee := Callee.value (Operand.func 31), args := #[Operand.tmp 40, Operand.tmp 50, Operand.tmp 55], argTypes := #[33, 4, 3] }, type := 0, pos := "law.go:106", after := #[{ on := 0, ground := Ground.data }, { on := 10, ground := Ground.data }, { on := 15, ground := Ground.data }, { on := 5, ground := Ground.chain }], guard := none }) rfl (fun K hK => ?_) AllReadyH.nil
                go_simp
                refine (rNeed_any' (HR4.out.new hnn) false q).mono ?_
                rintro e w5 ⟨rfl, hr5, hu5⟩
                have HR5 := hid hr5
                go_wp2_with fail
                have hn := hn.upd hu5 hr5.c1
                clear hr5
                refine hK.out _ _ (by first | exact hn | exact Upd.alloc hn _) (fun hn => ?_)
                clear hK K
                try simp only [Act.put, List.setIfInBounds_toArray, List.set_cons_zero, List.set_cons_succ]
                refine wpAnyH_done (by kernel_rfl) ?_ _
                refine NoPanic.normal ?_
                have hu5 := hn.up
                have c1 := HR5.out.c1
                have c3 := HR5.out.c3
                have hcv := conv1 w5 x
                clear hn hnn
                have U5 := hid ((U4.out.trans hu5 (fun _ _ h => h)).thenNew ((Upd.refl _ _).alloc (.cells #[.int .u8 x.toNat] 5)))
                have UW5 := hid ((UW4.out.trans hu5 (fun _ _ h => h)).thenNew ((Upd.refl _ _).alloc (.cells #[.int .u8 x.toNat] 5)))
                have HR6 := hid (HR5.out.new ((Upd.refl _ _).alloc (.cells #[.int .u8 x.toNat] 5)))
                have c3' := HR6.out.c3
                clear hu5
                go_wp2_with fail
                clear hcv
                go_roundg (l.length - (i + 1))
                case measure => omega
                case rel =>
                  refine ⟨i + 1, pre, rfl, by go_num, by omega, ⟨U5.out, HTX.out _ UW5.out, IR.out.fr, .inr ⟨q', 2, q, (by decide), HR6.out, ?_⟩⟩⟩
                  obtain ⟨t, ht, -⟩ := HRT.out
                  have h1 := HO1.out
                  have h2 := HO2.out
                  rw [ht, allO_up (by rw [HD.out]; decide) HAO.out] at h1 h2
                  exact Prod.ext (by simpa using h1) h2
          · have e4 : w3.cell? ⟨wr.heap.size, 4, none⟩ = some (.int .i64 a.x.kind) := CELL.out _ (Upd.refl _ _) 4 _ rfl
            have e5 : w3.cell? ⟨wr.heap.size, 5, none⟩ = some (.int .u64 a.x.lo) := CELL.out _ (Upd.refl _ _) 5 _ rfl
            have e6 : w3.cell? ⟨wr.heap.size, 6, none⟩ = some (.int .u64 a.x.hi) := CELL.out _ (Upd.refl _ _) 6 _ rfl
            have e7 : w3.cell? ⟨wr.heap.size, 7, none⟩ = some (.int .i64 a.x.i1) := CELL.out _ (Upd.refl _ _) 7 _ rfl
            have e8 : w3.cell? ⟨wr.heap.size, 8, none⟩ = some (.int .i64 a.x.i2) := CELL.out _ (Upd.refl _ _) 8 _ rfl
            have e9 : w3.cell? ⟨wr.heap.size, 9, none⟩ = some (.int .i64 a.x.o1) := CELL.out _ (Upd.refl _ _) 9 _ rfl
            have e10 : w3.cell? ⟨wr.heap.size, 10, none⟩ = some (.int .i64 a.x.o2) := CELL.out _ (Upd.refl _ _) 10 _ rfl
            have e11 : w3.cell? ⟨wr.heap.size, 11, none⟩ = some (.int .i64 a.x.b1) := CELL.out _ (Upd.refl _ _) 11 _ rfl
            have e12 : w3.cell? ⟨wr.heap.size, 12, none⟩ = some (.int .i64 a.x.b2) := CELL.out _ (Upd.refl _ _) 12 _ rfl
            have e13 : w3.cell? ⟨wr.heap.size, 13, none⟩ = some (.slice pa a.x.picks.length pc) := CELL.out _ (Upd.refl _ _) 13 _ rfl
            have HCL := hid (rUint_any H3.out HIQ.out a.x _ (wantOk_of HWF.out HFA.out HD.out (HP.out.upd U3.out HPB.out)) HPB.out)
            clear c3
            go_wp2_with fail
            refine HCL.out.mono ?_
            rintro e w4 ⟨hu4, hm4⟩
            have U4 := hid (U3.out.trans hu4 (fun _ _ h => h))
            obtain ⟨x, hx⟩ : ∃ x, uintO B.data.toList lim a.x.may q = x := ⟨_, rfl⟩
            have HAO : Hid (askO B.data.toList lim a q = x.bind fun ds q => .ok (numL (val ds) 8) q) := by
              show _ = _
              unfold askO
              rw [HD.out, if_neg (by decide), if_pos rfl, hx]
            rw [hx] at hm4
            have HTX : Hid (∀ W, Upd (· = R) wr W → Texts W u5 pre) := fun W hW => IR.out.txt.upd hW (fun k hk e => by have := IR.out.fr k hk; omega)
            cases x with
            | up q' er =>
              obtain ⟨ds, p', rfl, hr4⟩ := hm4
              have HNE := hid (askO_er HAO.out)
              have UW4 := hid ((New.upd (S := (· = R)) HN3.out).trans hu4 (fun _ _ h => h))
              have HR4 := hid hr4
              have c3 := hr4.c3
              have hb : ((er : Int) == 0) = false := by rw [beq_eq_false_iff_ne]; have := HNE.out; omega
              clear hr4 hx hu4
              unfold UintV
              have HNM := hid (number_any)
              go_wp2_with fail
              rw [show ((val ds : Nat) : Int) % 4294967296 = ((val ds % 4294967296 : Nat) : Int) from by omega]
              refine (HNM.out _ (by omega) _).mono ?_
              rintro e w5 ⟨rfl, hn5⟩
              have HR5 := hid (HR4.out.new hn5)
              have c3 := HR5.out.c3
              have c1 := HR5.out.c1
              have U5 := hid (U4.out.thenNew hn5)
              have UW := hid (UW4.out.thenNew hn5)
              clear hn5
              unfold numV
              go_wp2_with fail
              go_roundg (l.length - (i + 1))
              case measure => omega
              case rel =>
                refine ⟨i + 1, pre, rfl, by go_num, by omega, ⟨U5.out, HTX.out _ UW.out, IR.out.fr, .inr ⟨p', er, q', HNE.out, HR5.out, ?_⟩⟩⟩
                obtain ⟨t, ht, -⟩ := HRT.out
                have h1 := HO1.out
                have h2 := HO2.out
                rw [ht, allO_up (by rw [HD.out]; decide) HAO.out] at h1 h2
                exact Prod.ext (by simpa using h1) h2
            | ok ds q' =>
              obtain ⟨rfl, hr4⟩ := hm4
              have hiq' : Inv B.size lim q' := by
                have := askO_inv (by rw [HL.out]; exact HIQ.out) HAO.out
                rw [HL.out] at this
                exact this
              have HIQ4 := hid hiq'
              have hql := hiq'.place
              have hqb := hiq'.len
              have hrr := hiq'.rest
              obtain ⟨rn, hrn⟩ : ∃ rn : Nat, rest lim q' = rn := ⟨(rest lim q').toNat, by omega⟩
              have HRN : Hid ((rest lim q').toNat = rn) := by show _ = _; omega
              rw [hrn] at hrr
              have hrb : rn ≤ 1099511627776 := by omega
              have HRE := hid hrn
              have HR4 := hid hr4
              have UW4 := hid ((New.upd (S := (· = R)) HN3.out).trans hu4 (fun _ _ h => h))
              have HV := hid (uintO_ok hx).2.1
              clear hr4 hx hu4 hiq' hrr hrn
              unfold UintV
              have HNM := hid (number_any)
              go_wp2_with fail
              rw [show ((val ds : Nat) : Int) % 4294967296 = ((val ds : Nat) : Int) from by have := HV.out; omega]
              refine (HNM.out _ (by have := HV.out; omega) _).mono ?_
              rintro e w5 ⟨rfl, hn5⟩
              have HR5 := hid (HR4.out.new hn5)
              have c3 := HR5.out.c3
              have c1 := HR5.out.c1
              have U5 := hid (U4.out.thenNew hn5)
              have UW := hid (UW4.out.thenNew hn5)
              clear hn5
              unfold numV
              go_wp2_with fail
              have HNB := hid (fun n h W => number_any n h W)
              refine (HNB.out q' (by omega) _).mono ?_
              rintro e w6 ⟨rfl, hn6⟩
              have HN6 := hid hn6
              clear hn6
              unfold numV
              have HRS : Hid (∀ W, New w5 W → Calls Try.prog 38 #[.pointer (some ⟨R, 0, none⟩)] W fun e w' => e = .returned (.int .i64 rn) ∧ New W w') := fun W hW => by
                have := rRest_any (HR5.out.new hW) HIQ4.out
                rw [HRE.out] at this
                exact this
              go_wp2_with fail
              refine (HRS.out _ HN6.out).mono ?_
              rintro e w7 ⟨rfl, hn7⟩
              have HN7 := hid (New.trans HN6.out hn7)
              clear hn7
              go_wp2_with fail
              refine (HNB.out rn (by omega) _).mono ?_
              rintro e w8 ⟨rfl, hn8⟩
              have HN8 := hid (New.trans HN7.out hn8)
              clear hn8
              unfold numV
              have HPL : Hid (pre.length ≤ 100) := by
                show _ ≤ _
                have h1 := congrArg List.length HO1.out
                have h2 := HOL.out
                rw [List.length_append] at h1
                omega
              have hn9 : New w5 (w8.alloc (.cells ([numL (val ds) 8, numL q' 8, numL rn 8].map strV).toArray 9)) := HN8.out.alloc _
              have UW9 := hid (UW.out.thenNew hn9)
              have UA9 := hid (U5.out.thenNew hn9)
              have HR9 := hid (HR5.out.new hn9)
              clear hn9
              go_wp2_with (at_builtin; refine hold ?_)
              refine appT (.tmp 115) (.tmp 127) (ds := pre) (bs := [numL (val ds) 8, numL q' 8, numL rn 8]) (HTX.out _ UW9.out) (RdT.lit w8 _ 9) (by have := HPL.out; simp; omega) rfl rfl rfl rfl ?_
              intro v8 w9 htx ha
              have HTXB := hid htx
              have UB := hid (UA9.out.trans ha.upd (fun k hk hh => by have := IR.out.fr k hh; omega))
              have HRB := hid (HR9.out.upd ha.upd (fun hh => by have := IR.out.fr R hh; omega))
              have HFB := hid (IR.out.fr.adds UA9.out.size ha)
              clear htx ha
              go_wp2_with fail
              go_roundg (l.length - (i + 1))
              case measure => omega
              case rel =>
                obtain ⟨t, ht, ht2⟩ := HRT.out
                have h1 := HO1.out
                have h2 := HO2.out
                rw [ht, allO_ok (by rw [HD.out]; decide) HAO.out, ht2] at h1 h2
                refine ⟨i + 1, pre ++ [numL (val ds) 8, numL q' 8, numL rn 8], rfl, by go_num, by omega, ⟨UB.out, HTXB.out, HFB.out, .inl ⟨q', HRB.out, HIQ4.out, ?_, h2⟩⟩⟩
                rw [h1, HRN.out]
                simp
          · have hsn := HFA.out.sign HD.out
            obtain ⟨n, hnn⟩ : ∃ n : Nat, a.n = n := ⟨a.n.toNat, by omega⟩
            have hn1 : 1 ≤ n := by omega
            have hn2 : n ≤ 64 := by omega
            have HNT : Hid (a.n.toNat = n) := by show _ = _; omega
            have e1 : w3.cell? ⟨wr.heap.size, 1, none⟩ = some (.int .i64 (n : Nat)) := by rw [← hnn]; exact CELL.out _ (Upd.refl _ _) 1 _ rfl
            have e11 : w3.cell? ⟨wr.heap.size, 11, none⟩ = some (.int .i64 a.x.b1) := CELL.out _ (Upd.refl _ _) 11 _ rfl
            have e12 : w3.cell? ⟨wr.heap.size, 12, none⟩ = some (.int .i64 a.x.b2) := CELL.out _ (Upd.refl _ _) 12 _ rfl
            have HCL := hid (rSint_any H3.out HIQ.out n hn1 hn2 a.x.b1 a.x.b2 HFA.out.beh.1)
            clear c3
            go_wp2_with fail
            refine HCL.out.mono ?_
            rintro e w4 ⟨hu4, hm4⟩
            have U4 := hid (U3.out.trans hu4 (fun _ _ h => h))
            obtain ⟨x, hx⟩ : ∃ x, sintO B.data.toList lim (fun r => hasR a.x.b1 a.x.b2 r) n q = x := ⟨_, rfl⟩
            have HAO : Hid (askO B.data.toList lim a q = x.bind fun ds q => .ok (numL (sval ds % 18446744073709551616).toNat 8) q) := by
              show _ = _
              unfold askO
              rw [HD.out, if_neg (by decide), if_neg (by decide), if_pos rfl, HNT.out, hx]
            rw [hx] at hm4
            have HTX : Hid (∀ W, Upd (· = R) wr W → Texts W u5 pre) := fun W hW => IR.out.txt.upd hW (fun k hk e => by have := IR.out.fr k hk; omega)
            cases x with
            | up q' er =>
              obtain ⟨ds, p', rfl, hr4⟩ := hm4
              have HNE := hid (askO_er HAO.out)
              have UW4 := hid ((New.upd (S := (· = R)) HN3.out).trans hu4 (fun _ _ h => h))
              have HR4 := hid hr4
              have c3 := hr4.c3
              have hb : ((er : Int) == 0) = false := by rw [beq_eq_false_iff_ne]; have := HNE.out; omega
              clear hr4 hx hu4
              unfold SintV
              have HNM := hid (number_any)
              go_wp2_with fail
              rw [show IntKind.u64.wrap (sval ds) = ((sval ds % 18446744073709551616).toNat : Int) from by simp only [IntKind.wrap, IntKind.bits, IntKind.signed, Bool.false_and, Bool.false_eq_true, if_false]; omega]
              refine (HNM.out _ (by omega) _).mono ?_
              rintro e w5 ⟨rfl, hn5⟩
              have HR5 := hid (HR4.out.new hn5)
              have c3 := HR5.out.c3
              have c1 := HR5.out.c1
              have U5 := hid (U4.out.thenNew hn5)
              have UW := hid (UW4.out.thenNew hn5)
              clear hn5
              unfold numV
              go_wp2_with fail
              go_roundg (l.length - (i + 1))
              case measure => omega
              case rel =>
                refine ⟨i + 1, pre, rfl, by go_num, by omega, ⟨U5.out, HTX.out _ UW.out, IR.out.fr, .inr ⟨p', er, q', HNE.out, HR5.out, ?_⟩⟩⟩
                obtain ⟨t, ht, -⟩ := HRT.out
                have h1 := HO1.out
                have h2 := HO2.out
                rw [ht, allO_up (by rw [HD.out]; decide) HAO.out] at h1 h2
                exact Prod.ext (by simpa using h1) h2
            | ok ds q' =>
              obtain ⟨rfl, hr4⟩ := hm4
              have hiq' : Inv B.size lim q' := by
                have := askO_inv (by rw [HL.out]; exact HIQ.out) HAO.out
                rw [HL.out] at this
                exact this
              have HIQ4 := hid hiq'
              have hql := hiq'.place
              have hqb := hiq'.len
              have hrr := hiq'.rest
              obtain ⟨rn, hrn⟩ : ∃ rn : Nat, rest lim q' = rn := ⟨(rest lim q').toNat, by omega⟩
              have HRN : Hid ((rest lim q').toNat = rn) := by show _ = _; omega
              rw [hrn] at hrr
              have hrb : rn ≤ 1099511627776 := by omega
              have HRE := hid hrn
              have HR4 := hid hr4
              have UW4 := hid ((New.upd (S := (· = R)) HN3.out).trans hu4 (fun _ _ h => h))
              clear hr4 hx hu4 hiq' hrr hrn
              unfold SintV
              have HNM := hid (number_any)
              go_wp2_with fail
              rw [show IntKind.u64.wrap (sval ds) = ((sval ds % 18446744073709551616).toNat : Int) from by simp only [IntKind.wrap, IntKind.bits, IntKind.signed, Bool.false_and, Bool.false_eq_true, if_false]; omega]
              refine (HNM.out _ (by omega) _).mono ?_
              rintro e w5 ⟨rfl, hn5⟩
              have HR5 := hid (HR4.out.new hn5)
              have c3 := HR5.out.c3
              have c1 := HR5.out.c1
              have U5 := hid (U4.out.thenNew hn5)
              have UW := hid (UW4.out.thenNew hn5)
              clear hn5
              unfold numV
              go_wp2_with fail
              have HNB := hid (fun n h W => number_any n h W)
              refine (HNB.out q' (by omega) _).mono ?_
              rintro e w6 ⟨rfl, hn6⟩
              have HN6 := hid hn6
              clear hn6
              unfold numV
              have HRS : Hid (∀ W, New w5 W → Calls Try.prog 38 #[.pointer (some ⟨R, 0, none⟩)] W fun e w' => e = .returned (.int .i64 rn) ∧ New W w') := fun W hW => by
                have := rRest_any (HR5.out.new hW) HIQ4.out
                rw [HRE.out] at this
                exact this
              go_wp2_with fail
              refine (HRS.out _ HN6.out).mono ?_
              rintro e w7 ⟨rfl, hn7⟩
              have HN7 := hid (New.trans HN6.out hn7)
              clear hn7
              go_wp2_with fail
              refine (HNB.out rn (by omega) _).mono ?_
              rintro e w8 ⟨rfl, hn8⟩
              have HN8 := hid (New.trans HN7.out hn8)
              clear hn8
              unfold numV
              have HPL : Hid (pre.length ≤ 100) := by
                show _ ≤ _
                have h1 := congrArg List.length HO1.out
                have h2 := HOL.out
                rw [List.length_append] at h1
                omega
              have hn9 : New w5 (w8.alloc (.cells ([numL (sval ds % 18446744073709551616).toNat 8, numL q' 8, numL rn 8].map strV).toArray 9)) := HN8.out.alloc _
              have UW9 := hid (UW.out.thenNew hn9)
              have UA9 := hid (U5.out.thenNew hn9)
              have HR9 := hid (HR5.out.new hn9)
              clear hn9
              go_wp2_with (at_builtin; refine hold ?_)
              refine appT (.tmp 115) (.tmp 127) (ds := pre) (bs := [numL (sval ds % 18446744073709551616).toNat 8, numL q' 8, numL rn 8]) (HTX.out _ UW9.out) (RdT.lit w8 _ 9) (by have := HPL.out; simp; omega) rfl rfl rfl rfl ?_
              intro v8 w9 htx ha
              have HTXB := hid htx
              have UB := hid (UA9.out.trans ha.upd (fun k hk hh => by have := IR.out.fr k hh; omega))
              have HRB := hid (HR9.out.upd ha.upd (fun hh => by have := IR.out.fr R hh; omega))
              have HFB := hid (IR.out.fr.adds UA9.out.size ha)
              clear htx ha
              go_wp2_with fail
              go_roundg (l.length - (i + 1))
              case measure => omega
              case rel =>
                obtain ⟨t, ht, ht2⟩ := HRT.out
                have h1 := HO1.out
                have h2 := HO2.out
                rw [ht, allO_ok (by rw [HD.out]; decide) HAO.out, ht2] at h1 h2
                refine ⟨i + 1, pre ++ [numL (sval ds % 18446744073709551616).toNat 8, numL q' 8, numL rn 8], rfl, by go_num, by omega, ⟨UB.out, HTXB.out, HFB.out, .inl ⟨q', HRB.out, HIQ4.out, ?_, h2⟩⟩⟩
                rw [h1, HRN.out]
                simp
          · have e1 : w3.cell? ⟨wr.heap.size, 1, none⟩ = some (.int .i64 a.n) := CELL.out _ (Upd.refl _ _) 1 _ rfl
            have HCL := hid (rRaw_any H3.out HIQ.out a.n HWF.out.n.2)
            clear c3
            go_wp2_with fail
            refine HCL.out.mono ?_
            rintro e w4 ⟨hu4, hm4⟩
            have U4 := hid (U3.out.trans hu4 (fun _ _ h => h))
            obtain ⟨x, hx⟩ : ∃ x, rawO B.data.toList lim a.n q = x := ⟨_, rfl⟩
            have HAO : Hid (askO B.data.toList lim a q = x) := by
              show _ = _
              unfold askO
              rw [HD.out, if_neg (by decide), if_neg (by decide), if_neg (by decide), if_pos rfl]
              exact hx
            rw [hx] at hm4
            have HTX : Hid (∀ W, Upd (· = R) wr W → Texts W u5 pre) := fun W hW => IR.out.txt.upd hW (fun k hk e => by have := IR.out.fr k hk; omega)
            cases x with
            | up q' er =>
              obtain ⟨ds, p', rfl, hr4⟩ := hm4
              have HNE := hid (askO_er HAO.out)
              have UW4 := hid ((New.upd (S := (· = R)) HN3.out).trans hu4 (fun _ _ h => h))
              have HR4 := hid hr4
              have c3 := hr4.c3
              have hb : ((er : Int) == 0) = false := by rw [beq_eq_false_iff_ne]; have := HNE.out; omega
              clear hr4 hx hu4
              unfold strV
              go_wp2_with fail
              go_roundg (l.length - (i + 1))
              case measure => omega
              case rel =>
                refine ⟨i + 1, pre, rfl, by go_num, by omega, ⟨U4.out, HTX.out _ UW4.out, IR.out.fr, .inr ⟨p', er, q', HNE.out, HR4.out, ?_⟩⟩⟩
                obtain ⟨t, ht, -⟩ := HRT.out
                have h1 := HO1.out
                have h2 := HO2.out
                rw [ht, allO_up (by rw [HD.out]; decide) HAO.out] at h1 h2
                exact Prod.ext (by simpa using h1) h2
            | ok ds q' =>
              obtain ⟨rfl, hr4⟩ := hm4
              have hiq' : Inv B.size lim q' := by
                have := askO_inv (by rw [HL.out]; exact HIQ.out) HAO.out
                rw [HL.out] at this
                exact this
              have HIQ4 := hid hiq'
              have hql := hiq'.place
              have hqb := hiq'.len
              have hrr := hiq'.rest
              obtain ⟨rn, hrn⟩ : ∃ rn : Nat, rest lim q' = rn := ⟨(rest lim q').toNat, by omega⟩
              have HRN : Hid ((rest lim q').toNat = rn) := by show _ = _; omega
              rw [hrn] at hrr
              have hrb : rn ≤ 1099511627776 := by omega
              have HRE := hid hrn
              have HR4 := hid hr4
              have UW4 := hid ((New.upd (S := (· = R)) HN3.out).trans hu4 (fun _ _ h => h))
              clear hr4 hx hu4 hiq' hrr hrn
              have c1 := HR4.out.c1
              have c3 := HR4.out.c3
              unfold strV
              go_wp2_with fail
              have HNB := hid (fun n h W => number_any n h W)
              refine (HNB.out q' (by omega) _).mono ?_
              rintro e w6 ⟨rfl, hn6⟩
              have HN6 := hid hn6
              clear hn6
              unfold numV
              have HRS : Hid (∀ W, New w4 W → Calls Try.prog 38 #[.pointer (some ⟨R, 0, none⟩)] W fun e w' => e = .returned (.int .i64 rn) ∧ New W w') := fun W hW => by
                have := rRest_any (HR4.out.new hW) HIQ4.out
                rw [HRE.out] at this
                exact this
              go_wp2_with fail
              refine (HRS.out _ HN6.out).mono ?_
              rintro e w7 ⟨rfl, hn7⟩
              have HN7 := hid (New.trans HN6.out hn7)
              clear hn7
              go_wp2_with fail
              refine (HNB.out rn (by omega) _).mono ?_
              rintro e w8 ⟨rfl, hn8⟩
              have HN8 := hid (New.trans HN7.out hn8)
              clear hn8
              unfold numV
              have HPL : Hid (pre.length ≤ 100) := by
                show _ ≤ _
                have h1 := congrArg List.length HO1.out
                have h2 := HOL.out
                rw [List.length_append] at h1
                omega
              have hn9 : New w4 (w8.alloc (.cells ([ds, numL q' 8, numL rn 8].map strV).toArray 9)) := HN8.out.alloc _
              have UW9 := hid (UW4.out.thenNew hn9)
              have UA9 := hid (U4.out.thenNew hn9)
              have HR9 := hid (HR4.out.new hn9)
              clear hn9
              go_wp2_with (at_builtin; refine hold ?_)
              refine appT (.tmp 115) (.tmp 127) (ds := pre) (bs := [ds, numL q' 8, numL rn 8]) (HTX.out _ UW9.out) (RdT.lit w8 _ 9) (by have := HPL.out; simp; omega) rfl rfl rfl rfl ?_
              intro v8 w9 htx ha
              have HTXB := hid htx
              have UB := hid (UA9.out.trans ha.upd (fun k hk hh => by have := IR.out.fr k hh; omega))
              have HRB := hid (HR9.out.upd ha.upd (fun hh => by have := IR.out.fr R hh; omega))
              have HFB := hid (IR.out.fr.adds UA9.out.size ha)
              clear htx ha
              go_wp2_with fail
              go_roundg (l.length - (i + 1))
              case measure => omega
              case rel =>
                obtain ⟨t, ht, ht2⟩ := HRT.out
                have h1 := HO1.out
                have h2 := HO2.out
                rw [ht, allO_ok (by rw [HD.out]; decide) HAO.out, ht2] at h1 h2
                refine ⟨i + 1, pre ++ [ds, numL q' 8, numL rn 8], rfl, by go_num, by omega, ⟨UB.out, HTXB.out, HFB.out, .inl ⟨q', HRB.out, HIQ4.out, ?_, h2⟩⟩⟩
                rw [h1, HRN.out]
                simp
          · have e11 : w3.cell? ⟨wr.heap.size, 11, none⟩ = some (.int .i64 a.x.b1) := CELL.out _ (Upd.refl _ _) 11 _ rfl
            have e12 : w3.cell? ⟨wr.heap.size, 12, none⟩ = some (.int .i64 a.x.b2) := CELL.out _ (Upd.refl _ _) 12 _ rfl
            have HCL := hid (rName_any H3.out HIQ.out a.x.b1 a.x.b2 HFA.out.beh HWF.out.b2.2)
            clear c3
            go_wp2_with fail
            refine HCL.out.mono ?_
            rintro e w4 ⟨hu4, hm4⟩
            have U4 := hid (U3.out.trans hu4 (fun _ _ h => h))
            obtain ⟨x, hx⟩ : ∃ x, nameS B.data.toList lim (lenW a.x.b1 a.x.b2).may q = x := ⟨_, rfl⟩
            have HAO : Hid (askO B.data.toList lim a q = x) := by
              show _ = _
              unfold askO
              rw [HD.out, if_neg (by decide), if_neg (by decide), if_neg (by decide), if_neg (by decide)]
              exact hx
            rw [hx] at hm4
            have HTX : Hid (∀ W, Upd (· = R) wr W → Texts W u5 pre) := fun W hW => IR.out.txt.upd hW (fun k hk e => by have := IR.out.fr k hk; omega)
            cases x with
            | up q' er =>
              obtain ⟨ds, p', rfl, hr4⟩ := hm4
              have HNE := hid (askO_er HAO.out)
              have UW4 := hid ((New.upd (S := (· = R)) HN3.out).trans hu4 (fun _ _ h => h))
              have HR4 := hid hr4
              have c3 := hr4.c3
              have hb : ((er : Int) == 0) = false := by rw [beq_eq_false_iff_ne]; have := HNE.out; omega
              clear hr4 hx hu4
              unfold strV
              go_wp2_with fail
              go_roundg (l.length - (i + 1))
              case measure => omega
              case rel =>
                refine ⟨i + 1, pre, rfl, by go_num, by omega, ⟨U4.out, HTX.out _ UW4.out, IR.out.fr, .inr ⟨p', er, q', HNE.out, HR4.out, ?_⟩⟩⟩
                obtain ⟨t, ht, -⟩ := HRT.out
                have h1 := HO1.out
                have h2 := HO2.out
                rw [ht, allO_up (by rw [HD.out]; decide) HAO.out] at h1 h2
                exact Prod.ext (by simpa using h1) h2
            | ok ds q' =>
              obtain ⟨rfl, hr4⟩ := hm4
              have hiq' : Inv B.size lim q' := by
                have := askO_inv (by rw [HL.out]; exact HIQ.out) HAO.out
                rw [HL.out] at this
                exact this
              have HIQ4 := hid hiq'
              have hql := hiq'.place
              have hqb := hiq'.len
              have hrr := hiq'.rest
              obtain ⟨rn, hrn⟩ : ∃ rn : Nat, rest lim q' = rn := ⟨(rest lim q').toNat, by omega⟩
              have HRN : Hid ((rest lim q').toNat = rn) := by show _ = _; omega
              rw [hrn] at hrr
              have hrb : rn ≤ 1099511627776 := by omega
              have HRE := hid hrn
              have HR4 := hid hr4
              have UW4 := hid ((New.upd (S := (· = R)) HN3.out).trans hu4 (fun _ _ h => h))
              clear hr4 hx hu4 hiq' hrr hrn
              have c1 := HR4.out.c1
              have c3 := HR4.out.c3
              unfold strV
              go_wp2_with fail
              have HNB := hid (fun n h W => number_any n h W)
              refine (HNB.out q' (by omega) _).mono ?_
              rintro e w6 ⟨rfl, hn6⟩
              have HN6 := hid hn6
              clear hn6
              unfold numV
              have HRS : Hid (∀ W, New w4 W → Calls Try.prog 38 #[.pointer (some ⟨R, 0, none⟩)] W fun e w' => e = .returned (.int .i64 rn) ∧ New W w') := fun W hW => by
                have := rRest_any (HR4.out.new hW) HIQ4.out
                rw [HRE.out] at this
                exact this
              go_wp2_with fail
              refine (HRS.out _ HN6.out).mono ?_
              rintro e w7 ⟨rfl, hn7⟩
              have HN7 := hid (New.trans HN6.out hn7)
              clear hn7
              go_wp2_with fail
              refine (HNB.out rn (by omega) _).mono ?_
              rintro e w8 ⟨rfl, hn8⟩
              have HN8 := hid (New.trans HN7.out hn8)
              clear hn8
              unfold numV
              have HPL : Hid (pre.length ≤ 100) := by
                show _ ≤ _
                have h1 := congrArg List.length HO1.out
                have h2 := HOL.out
                rw [List.length_append] at h1
                omega
              have hn9 : New w4 (w8.alloc (.cells ([ds, numL q' 8, numL rn 8].map strV).toArray 9)) := HN8.out.alloc _
              have UW9 := hid (UW4.out.thenNew hn9)
              have UA9 := hid (U4.out.thenNew hn9)
              have HR9 := hid (HR4.out.new hn9)
              clear hn9
              go_wp2_with (at_builtin; refine hold ?_)
              refine appT (.tmp 115) (.tmp 127) (ds := pre) (bs := [ds, numL q' 8, numL rn 8]) (HTX.out _ UW9.out) (RdT.lit w8 _ 9) (by have := HPL.out; simp; omega) rfl rfl rfl rfl ?_
              intro v8 w9 htx ha
              have HTXB := hid htx
              have UB := hid (UA9.out.trans ha.upd (fun k hk hh => by have := IR.out.fr k hh; omega))
              have HRB := hid (HR9.out.upd ha.upd (fun hh => by have := IR.out.fr R hh; omega))
              have HFB := hid (IR.out.fr.adds UA9.out.size ha)
              clear htx ha
              go_wp2_with fail
              go_roundg (l.length - (i + 1))
              case measure => omega
              case rel =>
                obtain ⟨t, ht, ht2⟩ := HRT.out
                have h1 := HO1.out
                have h2 := HO2.out
                rw [ht, allO_ok (by rw [HD.out]; decide) HAO.out, ht2] at h1 h2
                refine ⟨i + 1, pre ++ [ds, numL q' 8, numL rn 8], rfl, by go_num, by omega, ⟨UB.out, HTXB.out, HFB.out, .inl ⟨q', HRB.out, HIQ4.out, ?_, h2⟩⟩⟩
                rw [h1, HRN.out]
                simp
          · have e1 : w3.cell? ⟨wr.heap.size, 1, none⟩ = some (.int .i64 a.n) := CELL.out _ (Upd.refl _ _) 1 _ rfl
            have HCL := hid (rEnter_any H3.out HIQ.out a.n HWF.out.n.1 HWF.out.n.2)
            have hcap := HCAP.out
            clear c3
            go_wp2_with fail
            refine HCL.out.mono ?_
            rintro e w4 ⟨rfl, hr4, hu4⟩
            have U4 := hid (U3.out.trans hu4 (fun _ _ h => h))
            have UW4 := hid ((New.upd (S := (· = R)) HN3.out).trans hu4 (fun _ _ h => h))
            have HREC : Hid (∀ v, RdA w Bk v (l.drop (i + 1)) → Calls Try.prog 10 #[.pointer (some ⟨R, 0, none⟩), v] w4 (AnsP w4 R B (limO a.n lim q) (allO B.data.toList (l.drop (i + 1)) (limO a.n lim q) q))) :=
              fun v hv => IH.out (l.drop (i + 1)) _ Bk w4 R B (limO a.n lim q) q (by simp; omega) (by simp; omega) (hv.upd U4.out (fun k hk => HBR.out k hk)) HBR.out (fun a ha => HW.out a (List.mem_of_mem_drop ha)) (fun a ha => HF.out a (List.mem_of_mem_drop ha)) hr4 (limO_inv HIQ.out)
            have HTX : Hid (∀ W, Upd (· = R) wr W → Texts W u5 pre) := fun W hW => IR.out.txt.upd hW (fun k hk e => by have := IR.out.fr k hk; omega)
            have HAL : Hid (O = (pre ++ (allO B.data.toList (l.drop (i + 1)) (limO a.n lim q) q).1, withinO (limO a.n lim q) (allO B.data.toList (l.drop (i + 1)) (limO a.n lim q) q).2)) := by
              obtain ⟨t, ht, ht2⟩ := HRT.out
              have h1 := HO1.out
              have h2 := HO2.out
              have e : allO B.data.toList (a :: t) lim q = ((allO B.data.toList t (limO a.n lim q) q).1, withinO (limO a.n lim q) (allO B.data.toList t (limO a.n lim q) q).2) := by
                show (if a.doo % 6 = 5 then _ else _) = _
                rw [HD.out, if_pos rfl]
              rw [ht, e, ht2] at h1 h2
              exact Prod.ext h1 h2
            have HIN : Hid (∀ q', (allO B.data.toList (l.drop (i + 1)) (limO a.n lim q) q).2 = .ok () q' → Inv B.size (limO a.n lim q) q') := fun q' h => by
              have := allO_inv (l.drop (i + 1)) (limO a.n lim q) q (by rw [HL.out]; exact limO_inv HIQ.out) h
              rw [HL.out] at this
              exact this
            have HOL2 : Hid ((allO B.data.toList (l.drop (i + 1)) (limO a.n lim q) q).1.length ≤ 90) := by
              have := allO_len (bs := B.data.toList) (l.drop (i + 1)) (limO a.n lim q) q
              show _ ≤ _
              simp only [List.length_drop] at this
              omega
            obtain ⟨O5, hO5⟩ : ∃ O5, allO B.data.toList (l.drop (i + 1)) (limO a.n lim q) q = O5 := ⟨_, rfl⟩
            obtain ⟨lm, hlm⟩ : ∃ lm, limO a.n lim q = lm := ⟨_, rfl⟩
            rw [hO5] at HREC HAL HIN HOL2
            rw [hlm] at HREC HAL HIN
            have HT := hid (fun hlt => RdA.tail HR.out (i + 1) hlt)
            have HE5 := hid (RdA.empty HR.out HNE0.out)
            clear hr4 hu4 hO5 hlm
            by_cases hce : cv = i + 1
            · have hle : l.length = i + 1 := by omega
              subst hce
              go_wp2_with fail
              refine (HREC.out _ (by rw [List.drop_of_length_le (by omega)]; exact HE5.out _ _)).mono ?_
              rintro e w5 ⟨v5, rfl, htx5, hu5, hfr5, hrr5⟩
              have U5 := hid (U4.out.trans hu5 (fun _ _ h => h))
              have UW5 := hid (UW4.out.trans hu5 (fun _ _ h => h))
              have HPL : Hid (pre.length ≤ 100) := by
                show _ ≤ _
                have h1 := congrArg List.length HO1.out
                have h2 := HOL.out
                rw [List.length_append] at h1
                omega
              have HRR5 := hid hrr5
              have HTX5 := hid htx5
              clear hrr5 htx5 hu5 hfr5
              go_wp2_with (at_builtin; refine hold ?_)
              refine appT (.tmp 98) (.tmp 104) (ds := pre) (bs := O5.1) (HTX.out _ UW5.out) HTX5.out.rd (by have := HPL.out; have := HOL2.out; omega) rfl rfl rfl rfl ?_
              intro v8 w6 htx ha
              have HTXB := hid htx
              have UB := hid (U5.out.trans ha.upd (fun k hk hh => by have := IR.out.fr k hh; omega))
              have HUA := hid ha.upd
              have HFB := hid (IR.out.fr.adds U5.out.size ha)
              have HFR : Hid (∀ k, u5.ownBlock = some k → k ≠ R) := fun k hk => by have := IR.out.fr k hk; omega
              clear htx ha
              obtain ⟨ts5, o5⟩ := O5
              cases o5 with
              | up q' er =>
                obtain ⟨hne, p', lim', hr5⟩ := HRR5.out
                have HNE := hid hne
                have HR6 := hid (hr5.upd HUA.out (fun hh => HFR.out R hh rfl))
                have HLV := hid (rLeave_gone HR6.out hne lim)
                clear hr5 hne
                go_wp2_with fail
                refine HLV.out.mono ?_
                rintro e w7 ⟨rfl, rfl⟩
                go_wp2_with fail
                go_ret
                rw [HAL.out]
                exact ⟨_, rfl, HTXB.out, UB.out, HFB.out, HNE.out, _, _, HR6.out⟩
              | ok z q' =>
                have hr5 := HRR5.out
                have HR6 := hid (Rdr.upd hr5 HUA.out (fun hh => HFR.out R hh rfl))
                have HLV := hid (rLeave_any HR6.out (HIN.out q' rfl) lim)
                clear hr5
                go_wp2_with fail
                refine HLV.out.mono ?_
                rintro e w7 ⟨rfl, hu7, hr7⟩
                have HR7 := hid hr7
                have UC := hid (UB.out.trans hu7 (fun _ _ h => h))
                have HTXC := hid (HTXB.out.upd hu7 (fun k hk e => by have := HFB.out k hk; omega))
                clear hr7 hu7
                go_wp2_with fail
                go_ret
                rw [HAL.out]
                refine ⟨_, rfl, HTXC.out, UC.out, HFB.out, ?_⟩
                have h7 := HR7.out
                by_cases hz : rest lm q' = 0
                · rw [if_pos hz, if_pos hz] at h7
                  simpa [AnsR, withinO, hz] using h7
                · rw [if_neg hz, if_neg hz] at h7
                  simp only [AnsR, withinO, hz, if_false]
                  exact ⟨by decide, _, _, h7⟩
            · have hcl : i + 1 < cv := by omega
              go_wp2_with fail
              refine (HREC.out _ (HT.out hlt)).mono ?_
              rintro e w5 ⟨v5, rfl, htx5, hu5, hfr5, hrr5⟩
              have U5 := hid (U4.out.trans hu5 (fun _ _ h => h))
              have UW5 := hid (UW4.out.trans hu5 (fun _ _ h => h))
              have HPL : Hid (pre.length ≤ 100) := by
                show _ ≤ _
                have h1 := congrArg List.length HO1.out
                have h2 := HOL.out
                rw [List.length_append] at h1
                omega
              have HRR5 := hid hrr5
              have HTX5 := hid htx5
              clear hrr5 htx5 hu5 hfr5
              go_wp2_with (at_builtin; refine hold ?_)
              refine appT (.tmp 98) (.tmp 104) (ds := pre) (bs := O5.1) (HTX.out _ UW5.out) HTX5.out.rd (by have := HPL.out; have := HOL2.out; omega) rfl rfl rfl rfl ?_
              intro v8 w6 htx ha
              have HTXB := hid htx
              have UB := hid (U5.out.trans ha.upd (fun k hk hh => by have := IR.out.fr k hh; omega))
              have HUA := hid ha.upd
              have HFB := hid (IR.out.fr.adds U5.out.size ha)
              have HFR : Hid (∀ k, u5.ownBlock = some k → k ≠ R) := fun k hk => by have := IR.out.fr k hk; omega
              clear htx ha
              obtain ⟨ts5, o5⟩ := O5
              cases o5 with
              | up q' er =>
                obtain ⟨hne, p', lim', hr5⟩ := HRR5.out
                have HNE := hid hne
                have HR6 := hid (hr5.upd HUA.out (fun hh => HFR.out R hh rfl))
                have HLV := hid (rLeave_gone HR6.out hne lim)
                clear hr5 hne
                go_wp2_with fail
                refine HLV.out.mono ?_
                rintro e w7 ⟨rfl, rfl⟩
                go_wp2_with fail
                go_ret
                rw [HAL.out]
                exact ⟨_, rfl, HTXB.out, UB.out, HFB.out, HNE.out, _, _, HR6.out⟩
              | ok z q' =>
                have hr5 := HRR5.out
                have HR6 := hid (Rdr.upd hr5 HUA.out (fun hh => HFR.out R hh rfl))
                have HLV := hid (rLeave_any HR6.out (HIN.out q' rfl) lim)
                clear hr5
                go_wp2_with fail
                refine HLV.out.mono ?_
                rintro e w7 ⟨rfl, hu7, hr7⟩
                have HR7 := hid hr7
                have UC := hid (UB.out.trans hu7 (fun _ _ h => h))
                have HTXC := hid (HTXB.out.upd hu7 (fun k hk e => by have := HFB.out k hk; omega))
                clear hr7 hu7
                go_wp2_with fail
                go_ret
                rw [HAL.out]
                refine ⟨_, rfl, HTXC.out, UC.out, HFB.out, ?_⟩
                have h7 := HR7.out
                by_cases hz : rest lm q' = 0
                · rw [if_pos hz, if_pos hz] at h7
                  simpa [AnsR, withinO, hz] using h7
                · rw [if_neg hz, if_neg hz] at h7
                  simp only [AnsR, withinO, hz, if_false]
                  exact ⟨by decide, _, _, h7⟩
        · have c3 := hr.c3
          have hb : ((er : Int) == 0) = false := by rw [beq_eq_false_iff_ne]; omega
          have HE := hid he
          have HRR := hid hr
          have HO := hid ho
          clear he hr ho
          go_wp2_with fail
          go_ret
          refine ⟨_, rfl, ?_, IR.out.up, IR.out.fr, ?_⟩
          · rw [HO.out]; exact IR.out.txt
          · rw [HO.out]; exact ⟨HE.out, _, _, HRR.out⟩
      · obtain rfl : i = l.length := by omega
        go_wp2_with fail
        go_ret
        refine ⟨_, rfl, ?_, IR.out.up, IR.out.fr, ?_⟩
        · rcases IR.out.st with ⟨q, hq, hiq, ho1, ho2⟩ | ⟨p', er, sp, he, hr, ho⟩
          · rw [ho1, List.drop_length]
            simpa [allO] using IR.out.txt
          · rw [ho]; exact IR.out.txt
        · rcases IR.out.st with ⟨q, hq, hiq, ho1, ho2⟩ | ⟨p', er, sp, he, hr, ho⟩
          · rw [ho2, List.drop_length]
            simpa [allO, AnsR] using hq
          · rw [ho]; exact ⟨he, _, _, hr⟩
end Go.Proofs.Ytkfohickmdkplaa
